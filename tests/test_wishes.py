import itertools
import unittest

from cutway.cuts import all_cuts
from cutway.records import Record
from cutway.wishes import holds, may, must, soonest
from samples import (
    FOUR_HANDS, ONE_LETTER, copied, full_rows, kept_rows, slow_cuts, slow_holds, slow_walks, small_rows, walk_cuts,
)

# No letter tells which hand's doings came first.
APART = [
    [("own", 0, 1), ("own", 0, 0)],
    [("own", 0, 1), ("own", 0, 0)],
]
FULL_OWN = [[("own", 0, at + 1) for at in range(6)] for hand in range(4)]
BOUND = 1000000000


def some_wishes(hands):
    """Wishes of up to two ways of up to two terms, about the values that the small records have."""
    terms = [(hand, sign, number) for hand in range(hands) for sign in "<=>" for number in (0, 5, 7)]
    ways = [[]] + [[term] for term in terms] + [list(pair) for pair in itertools.product(terms[::4], terms[1::5])]
    return [[]] + [[way] for way in ways] + [list(pair) for pair in itertools.product(ways[1::7], ways[2::6])]


class HoldsTest(unittest.TestCase):
    def check_holds(self, cut, wish, wanted, rows=ONE_LETTER):
        kept = [list(way) for way in wish]
        record = Record(rows)
        self.assertIs(holds(record, cut, wish), wanted, (cut, wish))
        self.assertEqual(wish, kept)
        self.assertEqual(record.rows, rows)

    def test_each_sign(self):
        for number, less, same, greater in ((5, False, True, False), (6, True, False, False), (4, False, False, True)):
            self.check_holds((1, 0), [[(0, "<", number)]], less)
            self.check_holds((1, 0), [[(0, "=", number)]], same)
            self.check_holds((1, 0), [[(0, ">", number)]], greater)

    def test_the_value_is_that_of_the_last_event(self):
        for cut, values in (((1, 0), (5, 0)), ((2, 0), (6, 0)), ((2, 1), (6, -3)), ((2, 2), (6, 1))):
            for hand in (0, 1):
                for number in (-3, 0, 1, 5, 6):
                    self.check_holds(cut, [[(hand, "=", number)]], values[hand] == number)

    def test_a_hand_without_events_in_the_cut(self):
        for number, less, same, greater in ((0, False, True, False), (1, True, False, False), (-1, False, False, True)):
            for cut, hand in (((0, 0), 0), ((0, 0), 1), ((2, 0), 1)):
                self.check_holds(cut, [[(hand, "<", number)]], less)
                self.check_holds(cut, [[(hand, "=", number)]], same)
                self.check_holds(cut, [[(hand, ">", number)]], greater)
        self.check_holds((0, 1), [[(0, "=", 0)]], True, [[], [("own", 0, 5)]])

    def test_numbers_at_both_bounds(self):
        rows = [[("own", 0, -BOUND), ("own", 0, BOUND)]]
        self.check_holds((1,), [[(0, "=", -BOUND)]], True, rows)
        self.check_holds((1,), [[(0, "<", -BOUND)]], False, rows)
        self.check_holds((1,), [[(0, ">", -BOUND)]], False, rows)
        self.check_holds((2,), [[(0, "=", BOUND)]], True, rows)
        self.check_holds((2,), [[(0, ">", BOUND - 1)]], True, rows)
        self.check_holds((2,), [[(0, ">", BOUND)]], False, rows)

    def test_a_way_without_terms_holds_always(self):
        for cut in ((0, 0), (1, 0), (2, 2)):
            self.check_holds(cut, [[]], True)
            self.check_holds(cut, [[(0, "=", 99)], []], True)

    def test_a_wish_without_ways_holds_never(self):
        for cut in ((0, 0), (1, 0), (2, 2)):
            self.check_holds(cut, [], False)

    def test_all_terms_of_one_way(self):
        self.check_holds((2, 1), [[(0, "=", 6), (1, "=", -3)]], True)
        self.check_holds((2, 1), [[(0, "=", 6), (1, "=", 1)]], False)
        self.check_holds((2, 1), [[(0, "=", 5), (1, "=", -3)]], False)
        self.check_holds((2, 1), [[(0, "=", 5), (1, "=", -3)], [(0, "=", 6), (1, "=", 1)]], False)
        self.check_holds((2, 1), [[(0, "=", 5)], [(0, "=", 6), (1, "=", -3)]], True)
        self.check_holds((2, 1), [[(0, "=", 6), (1, "=", -3)], [(0, "=", 5)]], True)

    def test_eight_ways_of_eight_terms(self):
        way = [(0, ">", number) for number in range(-2, 6)]
        wrong = way[:7] + [(0, ">", 6)]
        self.check_holds((2, 0), [wrong] * 7 + [way], True)
        self.check_holds((2, 0), [wrong] * 8, False)

    def test_a_hand_that_the_record_has_not_has_no_events(self):
        for hand in (2, 4, -1, -2):
            self.check_holds((2, 2), [[(hand, "=", 0)]], True)
            self.check_holds((2, 2), [[(hand, ">", 0)]], False)


class MayTest(unittest.TestCase):
    def check_may(self, rows, wish, wanted):
        kept = [list(way) for way in wish]
        told = may(Record(rows), wish)
        self.assertEqual(told, wanted)
        self.assertIsInstance(told, (tuple, None.__class__))
        self.assertEqual(wish, kept)

    def test_the_first_cut_in_which_it_holds(self):
        self.check_may(ONE_LETTER, [[(0, "=", 6)]], (2, 0))
        self.check_may(ONE_LETTER, [[(1, "=", 1)]], (2, 2))
        self.check_may(ONE_LETTER, [[(0, ">", 4)], [(1, "<", 0)]], (1, 0))
        self.check_may(APART, [[(0, "=", 1)], [(1, "=", 1)]], (0, 1))
        self.check_may(APART, [[(0, "=", 1), (1, "=", 1)]], (1, 1))

    def test_the_beginning(self):
        self.check_may(ONE_LETTER, [[(0, "=", 0)]], (0, 0))
        self.check_may(ONE_LETTER, [[]], (0, 0))
        self.check_may([[], []], [[(1, "<", 1)]], (0, 0))

    def test_none(self):
        self.check_may(ONE_LETTER, [], None)
        self.check_may(ONE_LETTER, [[(0, "=", 7)]], None)
        # The values are there, but no cut that can be has both.
        self.check_may(ONE_LETTER, [[(0, "=", 5), (1, "=", -3)]], None)
        self.check_may([[]], [[(0, ">", 0)], [(0, "<", 0)]], None)

    def test_four_full_rows(self):
        self.check_may(FULL_OWN, [[(hand, "=", 6) for hand in range(4)]], (6, 6, 6, 6))
        self.check_may(FULL_OWN, [[(3, ">", 5)], [(0, ">", 2)]], (3, 0, 0, 0))

    def test_asked_twice_with_unlike_wishes(self):
        record = Record(ONE_LETTER)
        self.assertEqual(may(record, [[(0, "=", 6)]]), (2, 0))
        self.assertEqual(may(record, [[(0, "=", 5)]]), (1, 0))
        self.assertIsNone(may(record, [[(0, "=", 4)]]))
        self.assertEqual(may(record, [[(0, "=", 6)]]), (2, 0))


def check_avoids(test, rows, wish, walk, cuts):
    test.assertIsInstance(walk, list)
    told = walk_cuts(rows, walk, cuts)
    test.assertIsNotNone(told, (rows, wish, walk))
    test.assertEqual(told[-1], tuple(len(row) for row in rows))
    for cut in told:
        test.assertFalse(slow_holds(rows, cut, wish), (rows, wish, walk))


class MustTest(unittest.TestCase):
    def check_held(self, rows, wish):
        kept = [list(way) for way in wish]
        self.assertIsNone(must(Record(rows), wish))
        self.assertEqual(wish, kept)

    def check_avoided(self, rows, wish):
        kept = [list(way) for way in wish]
        check_avoids(self, rows, wish, must(Record(rows), wish), slow_cuts(rows))
        self.assertEqual(wish, kept)

    def test_at_the_beginning_or_the_end(self):
        self.check_held(ONE_LETTER, [[(0, "=", 0)]])
        self.check_held(ONE_LETTER, [[(1, "=", 1)]])
        self.check_held(APART, [[(0, "=", 0), (1, "=", 0)]])
        self.check_held(ONE_LETTER, [[]])

    def test_between(self):
        self.check_held(ONE_LETTER, [[(0, "=", 5)]])
        self.check_held(ONE_LETTER, [[(0, "=", 6), (1, "=", 0)]])
        self.check_held(APART, [[(0, "=", 1)]])

    def test_ways_that_can_be_avoided_singly_but_not_together(self):
        ways = [[(0, "=", 1), (1, "=", 0)], [(0, "=", 1), (1, "=", 1)]]
        self.check_avoided(APART, ways[:1])
        self.check_avoided(APART, ways[1:])
        self.check_held(APART, ways)

    def test_what_may_be_avoided(self):
        self.check_avoided(ONE_LETTER, [[(0, "=", 7)]])
        self.check_avoided(ONE_LETTER, [[(0, "=", 5), (1, "=", -3)]])
        self.check_avoided(APART, [[(0, "=", 1), (1, "=", 1)]])
        self.check_avoided(APART, [])
        self.check_avoided(FOUR_HANDS, [[(0, "=", 3), (1, "=", -1)], [(0, "=", 1), (3, "=", 9)]])

    def test_a_walk_that_leaves_no_choice(self):
        wish = [[(0, ">", 0), (1, "=", 0)], [(0, "=", 1), (1, ">", 0)]]
        rows = [[("own", 0, 1), ("own", 0, 2)], [("own", 0, 1), ("own", 0, 2)]]
        self.assertIsNone(must(Record(rows), [[(0, "=", 1)]]))
        self.assertIsNone(must(Record(rows), wish))
        self.assertEqual(must(Record(rows), wish[:1] + [[(0, "=", 1), (1, "=", 1)]]), [1, 1, 0, 0])

    def test_rows_without_events(self):
        for hands in range(1, 5):
            record = Record([[] for hand in range(hands)])
            told = must(record, [[(0, "=", 1)]])
            self.assertIsInstance(told, list)
            self.assertEqual(told, [])
            self.assertEqual(must(record, []), [])
            self.assertIsNone(must(record, [[(0, "=", 0)]]))

    def test_four_full_rows(self):
        self.check_avoided(FULL_OWN, [[(0, ">", 3), (1, "<", 3)], [(2, ">", 4), (3, "<", 6)]])
        self.check_held(FULL_OWN, [[(0, "=", 3), (1, "<", 7), (2, "<", 7)]])

    def test_asked_twice_with_unlike_wishes(self):
        record = Record(APART)
        wish = [[(0, "=", 1), (1, "=", 1)]]
        told = must(record, wish)
        check_avoids(self, APART, wish, told, slow_cuts(APART))
        told.clear()
        self.assertIsNone(must(record, [[(0, "=", 1)]]))
        check_avoids(self, APART, wish, must(record, wish), slow_cuts(APART))
        self.assertEqual(record.rows, APART)


class SoonestTest(unittest.TestCase):
    def check_soonest(self, rows, way, wanted):
        kept = list(way)
        told = soonest(Record(rows), way)
        self.assertEqual(told, wanted)
        self.assertIsInstance(told, (tuple, None.__class__))
        self.assertEqual(way, kept)

    def test_the_least_cut(self):
        self.check_soonest(ONE_LETTER, [(0, "=", 6)], (2, 0))
        self.check_soonest(ONE_LETTER, [(1, "=", -3)], (2, 1))
        self.check_soonest(ONE_LETTER, [(1, ">", 0), (0, ">", 5)], (2, 2))
        self.check_soonest(APART, [(0, "=", 1), (1, "=", 1)], (1, 1))
        self.check_soonest(FOUR_HANDS, [(3, ">", 9)], (2, 3, 2, 3))
        self.check_soonest(FOUR_HANDS, [(3, "=", 9), (0, ">", 2)], (3, 0, 0, 2))

    def test_the_beginning(self):
        self.check_soonest(ONE_LETTER, [(1, "=", 0), (0, "<", 5)], (0, 0))
        self.check_soonest([[], []], [(0, "=", 0)], (0, 0))

    def test_a_way_without_terms(self):
        self.check_soonest(ONE_LETTER, [], (0, 0))
        self.check_soonest(FULL_OWN, [], (0, 0, 0, 0))
        self.check_soonest([[]], [], (0,))

    def test_none(self):
        self.check_soonest(ONE_LETTER, [(0, "=", 7)], None)
        self.check_soonest(ONE_LETTER, [(0, "=", 5), (1, "=", -3)], None)
        self.check_soonest(ONE_LETTER, [(0, "=", 5), (0, "=", 6)], None)
        self.check_soonest([[]], [(0, ">", 0)], None)

    def test_four_full_rows(self):
        self.check_soonest(FULL_OWN, [(0, ">", 3), (2, "=", 6), (3, ">", 0), (3, "<", 3)], (4, 0, 6, 1))

    def test_asked_twice_with_unlike_ways(self):
        record = Record(ONE_LETTER)
        self.assertEqual(soonest(record, [(1, "=", -3)]), (2, 1))
        self.assertIsNone(soonest(record, [(1, "=", 2)]))
        self.assertEqual(soonest(record, [(1, "=", -3)]), (2, 1))


class EveryRecordTest(unittest.TestCase):
    def check_wish(self, rows, record, cuts, wish):
        kept = [list(way) for way in wish]
        held = [cut for cut in cuts if slow_holds(rows, cut, wish)]
        self.assertEqual([cut for cut in cuts if holds(record, cut, wish)], held, (rows, wish))
        self.assertEqual(may(record, wish), (held + [None])[0], (rows, wish))
        if len(wish) == 1:
            self.check_least(rows, held, soonest(record, wish[0]))
        self.assertEqual(wish, kept)
        return held

    def check_least(self, rows, held, told):
        if not held:
            self.assertIsNone(told)
            return
        self.assertIn(told, held)
        for other in held:
            self.assertTrue(all(few <= many for few, many in zip(told, other)), (rows, told, other))

    def check_must(self, rows, record, wish, held, cuts, walks):
        told = must(record, wish)
        if any(not set(held) & set(way) for way in walks):
            check_avoids(self, rows, wish, told, cuts)
        else:
            self.assertIsNone(told, (rows, wish))

    def test_small_records(self):
        many = kept_rows(small_rows())[::6]
        self.assertGreater(len(many), 100)
        for rows in many:
            record = Record(copied(rows))
            cuts = slow_cuts(rows)
            walks = [walk_cuts(rows, walk, cuts) for walk in slow_walks(rows, cuts)]
            for wish in some_wishes(len(rows))[::3]:
                held = self.check_wish(rows, record, cuts, wish)
                self.check_must(rows, record, wish, held, cuts, walks)
            self.assertEqual(record.rows, rows)

    def test_full_records(self):
        many = kept_rows(full_rows(100))[::8]
        self.assertGreater(len(many), 3)
        for rows in many:
            record = Record(copied(rows))
            cuts = all_cuts(record)
            for wish in some_wishes(4)[::40]:
                self.check_wish(rows, record, cuts, wish)
                told = must(record, wish)
                if told is not None:
                    check_avoids(self, rows, wish, told, cuts)


if __name__ == "__main__":
    unittest.main()
