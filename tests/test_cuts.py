import math
import unittest

from cutway.cuts import all_cuts, can_be, joined, met, nexts, walk_count, walk_to
from cutway.errors import NoCut
from cutway.records import Record
from cutway.ways import clock
from refusals import check_refused
from samples import (
    FOUR_HANDS, ONE_LETTER, all_events, copied, full_rows, kept_rows, slow_can_be, slow_cuts, slow_walks, small_rows,
    walk_cuts, with_one_more,
)

# Hand 0 takes its own letter 1; its letter 2 is never taken.
OWN_LETTER = [
    [("send", 1, 1), ("own", 0, 2), ("take", 1, 3), ("send", 2, 4)],
    [("own", 0, 5)],
]
FULL_OWN = [[("own", 0, hand * 10 + at) for at in range(6)] for hand in range(4)]
# Of each two events one came ahead of the other.
TO_AND_FRO = [
    [("send", 0, 1), ("take", 1, 2), ("send", 2, 3)],
    [("take", 0, 4), ("send", 1, 5), ("take", 2, 6)],
]
# Cuts that cannot be of ONE_LETTER.
WRONG_CUTS = (
    (-1, 0), (0, -1), (-1, -1), (2, -1), (3, 0), (2, 3), (1000, 0), (), (0,), (2,), (0, 0, 0), (2, 2, 0),
    (0, 1), (1, 1), (1, 2), (0, 2),
)


class CanBeTest(unittest.TestCase):
    def check_cuts(self, rows, good, bad):
        record = Record(rows)
        for cut in good:
            self.assertIs(can_be(record, cut), True, cut)
        for cut in bad:
            self.assertIs(can_be(record, cut), False, cut)

    def test_a_take_needs_its_send(self):
        self.check_cuts(ONE_LETTER, ((0, 0), (1, 0), (2, 0), (2, 1), (2, 2)), ((0, 1), (1, 1), (0, 2), (1, 2)))

    def test_letters_over_several_hands(self):
        good = ((0, 0, 0, 0), (3, 4, 2, 4), (2, 3, 2, 3), (0, 1, 0, 2), (3, 1, 0, 2), (2, 3, 1, 2))
        bad = ((1, 2, 0, 0), (2, 2, 1, 0), (2, 3, 1, 3), (0, 0, 2, 0), (3, 4, 0, 4), (0, 0, 0, 3))
        self.check_cuts(FOUR_HANDS, good, bad)

    def test_counts_below_nought_or_above_the_row(self):
        self.check_cuts(ONE_LETTER, (), ((-1, 0), (0, -1), (-2, -2), (2, -1), (3, 0), (3, 2), (2, 3), (99, 99)))
        self.check_cuts([[], [("own", 0, 1)]], ((0, 0), (0, 1)), ((1, 0), (1, 1), (-1, 1), (0, 2), (0, -1)))
        self.check_cuts(FULL_OWN, ((6, 6, 6, 6), (6, 0, 6, 0)), ((7, 6, 6, 6), (0, 0, 0, 7), (0, 0, 0, -1)))

    def test_counts_too_many_or_too_few(self):
        self.check_cuts(ONE_LETTER, (), ((), (0,), (2,), (0, 0, 0), (2, 2, 0), (0, 0, 0, 0, 0)))
        self.check_cuts([[]], ((0,),), ((), (0, 0), (1,), (-1,)))

    def test_a_letter_that_a_hand_sends_and_takes_itself(self):
        good = [(count, other) for count in range(5) for other in range(2)]
        self.check_cuts(OWN_LETTER, good, ((5, 0), (0, 2), (-1, 0)))

    def test_a_letter_that_is_never_taken(self):
        self.check_cuts([[("send", 3, 1)], [("own", 0, 2)]], ((0, 0), (0, 1), (1, 0), (1, 1)), ((2, 0), (1, 2)))

    def test_an_own_doing_has_no_letter(self):
        self.check_cuts([[("send", 0, 1)], [("own", 0, 2)]], ((0, 1), (1, 0)), ())

    def test_the_clock_of_each_event(self):
        for rows in [FOUR_HANDS, ONE_LETTER, OWN_LETTER, FULL_OWN, TO_AND_FRO] + kept_rows(full_rows(60)):
            record = Record(rows)
            for one in all_events(rows):
                self.assertIs(can_be(record, clock(record, one)), True, (rows, one))

    def test_the_beginning_and_the_end(self):
        for rows in [FOUR_HANDS, ONE_LETTER, OWN_LETTER, FULL_OWN, TO_AND_FRO, [[]]]:
            record = Record(rows)
            self.assertIs(can_be(record, tuple(0 for row in rows)), True)
            self.assertIs(can_be(record, record.end()), True)


class NextsTest(unittest.TestCase):
    def check_nexts(self, rows, cut, hands):
        told = nexts(Record(rows), cut)
        self.assertIsInstance(told, list)
        self.assertEqual(told, hands)

    def test_at_the_beginning(self):
        self.check_nexts(ONE_LETTER, (0, 0), [0])
        self.check_nexts(FOUR_HANDS, (0, 0, 0, 0), [0, 1, 3])
        self.check_nexts(FULL_OWN, (0, 0, 0, 0), [0, 1, 2, 3])

    def test_at_the_end(self):
        self.check_nexts(ONE_LETTER, (2, 2), [])
        self.check_nexts(FOUR_HANDS, (3, 4, 2, 4), [])
        self.check_nexts([[], []], (0, 0), [])

    def test_between(self):
        self.check_nexts(ONE_LETTER, (1, 0), [0])
        self.check_nexts(ONE_LETTER, (2, 0), [1])
        self.check_nexts(FOUR_HANDS, (2, 1, 0, 2), [0, 1])
        self.check_nexts(FOUR_HANDS, (2, 3, 0, 2), [0, 1, 2])
        self.check_nexts(FOUR_HANDS, (2, 3, 2, 2), [0, 1, 3])
        self.check_nexts(FULL_OWN, (6, 0, 6, 5), [1, 3])

    def test_a_letter_that_a_hand_sends_and_takes_itself(self):
        self.check_nexts(OWN_LETTER, (2, 0), [0, 1])
        self.check_nexts(OWN_LETTER, (3, 1), [0])

    def test_the_list_is_a_new_one(self):
        record = Record(FOUR_HANDS)
        nexts(record, (0, 0, 0, 0)).clear()
        self.assertEqual(nexts(record, (0, 0, 0, 0)), [0, 1, 3])


def check_walk(test, rows, walk, cut):
    test.assertIsInstance(walk, list)
    told = walk_cuts(rows, walk, slow_cuts(rows))
    test.assertIsNotNone(told, walk)
    test.assertEqual(told[-1], cut)


class WalkToTest(unittest.TestCase):
    def test_walks_to_all_cuts(self):
        for rows in (ONE_LETTER, OWN_LETTER, FOUR_HANDS, TO_AND_FRO):
            record = Record(rows)
            for cut in slow_cuts(rows):
                check_walk(self, rows, walk_to(record, cut), cut)

    def test_the_walk_to_the_beginning_is_empty(self):
        for rows in (ONE_LETTER, FOUR_HANDS, FULL_OWN, [[]], [[], [], [], []]):
            told = walk_to(Record(rows), tuple(0 for row in rows))
            self.assertIsInstance(told, list)
            self.assertEqual(told, [])

    def test_a_walk_that_leaves_no_choice(self):
        self.assertEqual(walk_to(Record(ONE_LETTER), (2, 2)), [0, 0, 1, 1])
        self.assertEqual(walk_to(Record(TO_AND_FRO), (3, 3)), [0, 1, 1, 0, 0, 1])

    def test_a_walk_that_was_told_may_be_changed(self):
        record = Record(FOUR_HANDS)
        for cut in ((0, 0, 0, 0), (3, 4, 2, 4), (2, 1, 0, 0)):
            told = walk_to(record, cut)
            told.append(0)
            told.reverse()
            told.extend([9, 9])
            check_walk(self, FOUR_HANDS, walk_to(record, cut), cut)
        self.assertEqual(record.rows, FOUR_HANDS)

    def test_cuts_that_cannot_be(self):
        for cut in WRONG_CUTS:
            check_refused(self, NoCut, walk_to, Record(ONE_LETTER), cut)


class JoinedAndMetTest(unittest.TestCase):
    def check_both(self, rows, one, other, all_of_both, those_of_both):
        record = Record(rows)
        for first, second in ((one, other), (other, one)):
            for call, wanted in ((joined, all_of_both), (met, those_of_both)):
                told = call(record, first, second)
                self.assertIsInstance(told, tuple)
                self.assertEqual(told, wanted)

    def test_cuts_of_which_neither_lies_in_the_other(self):
        self.check_both(FOUR_HANDS, (2, 1, 0, 0), (0, 1, 0, 2), (2, 1, 0, 2), (0, 1, 0, 0))
        self.check_both(FOUR_HANDS, (3, 1, 0, 1), (2, 3, 1, 0), (3, 3, 1, 1), (2, 1, 0, 0))
        self.check_both(FULL_OWN, (6, 0, 3, 2), (0, 6, 2, 3), (6, 6, 3, 3), (0, 0, 2, 2))

    def test_the_beginning_and_the_end(self):
        begin, end, between = (0, 0, 0, 0), (3, 4, 2, 4), (2, 3, 1, 0)
        self.check_both(FOUR_HANDS, begin, between, between, begin)
        self.check_both(FOUR_HANDS, end, between, end, between)
        self.check_both(FOUR_HANDS, between, between, between, between)
        self.check_both([[]], (0,), (0,), (0,), (0,))

    def test_where_either_cannot_be(self):
        record = Record(ONE_LETTER)
        for wrong in WRONG_CUTS:
            for call in (joined, met):
                for good in ((0, 0), (2, 1), (2, 2)):
                    check_refused(self, NoCut, call, record, wrong, good)
                    check_refused(self, NoCut, call, record, good, wrong)
                check_refused(self, NoCut, call, record, wrong, wrong)


class AllCutsTest(unittest.TestCase):
    def check_cuts(self, rows, wanted):
        told = all_cuts(Record(rows))
        self.assertIsInstance(told, list)
        for cut in told:
            self.assertIsInstance(cut, tuple)
        self.assertEqual(told, wanted)

    def test_one_letter(self):
        self.check_cuts(ONE_LETTER, [(0, 0), (1, 0), (2, 0), (2, 1), (2, 2)])

    def test_the_order(self):
        rows = [[("own", 0, 1), ("own", 0, 2)], [("own", 0, 3)]]
        self.check_cuts(rows, [(0, 0), (0, 1), (1, 0), (1, 1), (2, 0), (2, 1)])
        rows = [[("own", 0, 1)], [("own", 0, 2)], [("own", 0, 3)]]
        self.check_cuts(rows, [
            (0, 0, 0), (0, 0, 1), (0, 1, 0), (1, 0, 0), (0, 1, 1), (1, 0, 1), (1, 1, 0), (1, 1, 1),
        ])

    def test_letters_over_several_hands(self):
        for rows in (FOUR_HANDS, OWN_LETTER, TO_AND_FRO):
            self.check_cuts(rows, slow_cuts(rows))

    def test_rows_without_events(self):
        for hands in range(1, 5):
            self.check_cuts([[] for hand in range(hands)], [(0,) * hands])
        self.check_cuts([[], [("own", 0, 1)], []], [(0, 0, 0), (0, 1, 0)])

    def test_one_hand(self):
        self.check_cuts([[("own", 0, 1), ("send", 1, 2), ("take", 1, 3)]], [(0,), (1,), (2,), (3,)])

    def test_four_full_rows_of_own_doings(self):
        wanted = slow_cuts(FULL_OWN)
        self.assertEqual(len(wanted), 7 ** 4)
        self.check_cuts(FULL_OWN, wanted)

    def test_a_list_that_was_told_may_be_changed(self):
        record = Record(FOUR_HANDS)
        wanted = slow_cuts(FOUR_HANDS)
        for change in (list.clear, list.reverse, list.pop):
            change(all_cuts(record))
            self.assertEqual(all_cuts(record), wanted)
        self.assertEqual(record.rows, FOUR_HANDS)


class WalkCountTest(unittest.TestCase):
    def test_one_walk_alone(self):
        for rows in (ONE_LETTER, TO_AND_FRO, [[]], [[], [], [], []], [[("own", 0, 1)] * 6], [[], [("own", 0, 1)]]):
            self.assertEqual(walk_count(Record(rows)), 1)

    def test_some_walks(self):
        self.assertEqual(walk_count(Record([[("own", 0, 1)], [("own", 0, 2)]])), 2)
        self.assertEqual(walk_count(Record(OWN_LETTER)), 5)
        self.assertEqual(walk_count(Record([[("own", 0, 1), ("send", 1, 2)], [("own", 0, 3), ("take", 1, 4)]])), 3)

    def test_very_many_walks(self):
        self.assertEqual(walk_count(Record(FULL_OWN)), math.factorial(24) // math.factorial(6) ** 4)

    def test_asked_twice(self):
        record = Record(OWN_LETTER)
        self.assertEqual([walk_count(record), walk_count(record)], [5, 5])


class EveryRecordTest(unittest.TestCase):
    def check_record(self, rows):
        record = Record(copied(rows))
        cuts = slow_cuts(rows)
        self.assertEqual(all_cuts(record), cuts, rows)
        known = set(cuts)
        for cut in cuts:
            self.assertIs(can_be(record, cut), True, (rows, cut))
            wanted = [hand for hand in range(len(rows)) if with_one_more(cut, hand) in known]
            self.assertEqual(nexts(record, cut), wanted, (rows, cut))
            told = walk_cuts(rows, walk_to(record, cut), known)
            self.assertEqual(told[-1:], [cut])
        self.assertEqual(record.rows, rows)
        return record, cuts

    def test_small_records(self):
        many = kept_rows(small_rows())
        self.assertGreater(len(many), 500)
        for rows in many:
            record, cuts = self.check_record(rows)
            self.assertEqual(walk_count(record), len(slow_walks(rows, cuts)), rows)
            for one in cuts:
                for other in cuts:
                    self.assertIs(slow_can_be(rows, joined(record, one, other)), True)
                    self.assertIs(slow_can_be(rows, met(record, one, other)), True)

    def test_full_records(self):
        many = kept_rows(full_rows(100))[::4]
        self.assertGreater(len(many), 5)
        for rows in many:
            self.check_record(rows)


if __name__ == "__main__":
    unittest.main()
