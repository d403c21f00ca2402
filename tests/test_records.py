import unittest

from cutway.errors import BadLetter, NoEvent, Ring
from cutway.records import Record
from refusals import check_refused
from samples import FOUR_HANDS, all_events, copied, full_rows, leads_round, leads_straight, letters_are_bad, small_rows


class KeptRowsTest(unittest.TestCase):
    def check_told(self, record, rows):
        self.assertEqual(record.rows, rows)
        self.assertIsInstance(record.rows, list)
        for row in record.rows:
            self.assertIsInstance(row, list)
        for hand, at in all_events(rows):
            event = record.event(hand, at)
            self.assertIsInstance(event, tuple)
            self.assertEqual(event, rows[hand][at])
        self.assertIsInstance(record.end(), tuple)
        self.assertEqual(record.end(), tuple(len(row) for row in rows))

    def test_four_hands(self):
        self.check_told(Record(copied(FOUR_HANDS)), FOUR_HANDS)

    def test_one_hand(self):
        self.check_told(Record([[("own", 0, 5)]]), [[("own", 0, 5)]])
        self.assertEqual(Record([[("own", 0, 5)]]).end(), (1,))

    def test_rows_without_events(self):
        for hands in range(1, 5):
            rows = [[] for hand in range(hands)]
            self.check_told(Record(copied(rows)), rows)
        rows = [[], [("own", 0, 1), ("own", 0, 2)], []]
        self.check_told(Record(copied(rows)), rows)
        self.assertEqual(Record(rows).end(), (0, 2, 0))

    def test_full_rows(self):
        rows = [[("own", 0, hand - at) for at in range(6)] for hand in range(4)]
        self.check_told(Record(copied(rows)), rows)
        self.assertEqual(Record(rows).end(), (6, 6, 6, 6))

    def test_numbers_at_both_bounds(self):
        rows = [
            [("own", 0, -1000000000), ("send", 0, 1000000000), ("send", 99, -1000000000)],
            [("take", 99, 1000000000), ("take", 0, -1000000000), ("own", 0, 1000000000)],
        ]
        self.check_told(Record(copied(rows)), rows)

    def test_numbers_and_lengths_somewhat_beyond_are_not_refused(self):
        for rows in (
            [[("send", 100, 1000000001)], [("take", 100, -1000000001)]],
            [[("own", 0, 1)] * 7],
            [[("send", -1, 1), ("take", -1, 1)], [], [], [], []],
            [],
        ):
            self.check_told(Record(copied(rows)), rows)

    def test_lists_handed_in_may_be_changed_later(self):
        rows = copied(FOUR_HANDS)
        record = Record(rows)
        rows[0][0] = ("own", 0, 77)
        rows[1].append(("own", 0, 78))
        rows[2].clear()
        rows.append([("take", 60, 0)])
        self.check_told(record, FOUR_HANDS)
        rows.clear()
        self.check_told(record, FOUR_HANDS)

    def test_lists_handed_in_stay_as_they_were(self):
        rows = copied(FOUR_HANDS)
        inner = list(rows)
        record = Record(rows)
        record.event(0, 0)
        record.end()
        self.assertEqual(rows, FOUR_HANDS)
        self.assertTrue(all(one is other for one, other in zip(rows, inner)))

    def test_two_records_of_the_same_lists_share_nothing(self):
        rows = copied(FOUR_HANDS)
        first = Record(rows)
        second = Record(rows)
        self.assertIsNot(first.rows, second.rows)
        self.assertIsNot(first.rows[0], second.rows[0])
        self.assertIsNot(first.rows, rows)

    def test_one_list_as_the_row_of_two_hands(self):
        row = [("own", 0, 3)]
        record = Record([row, row])
        row.append(("own", 0, 4))
        self.check_told(record, [[("own", 0, 3)], [("own", 0, 3)]])


class NoEventTest(unittest.TestCase):
    def check_none(self, record, hand, at):
        check_refused(self, NoEvent, record.event, hand, at)

    def test_places_that_no_event_has(self):
        record = Record(FOUR_HANDS)
        for hand, at in ((0, 3), (1, 4), (2, 2), (3, 4), (4, 0), (0, 1000), (1000, 0)):
            self.check_none(record, hand, at)

    def test_numbers_below_nought(self):
        record = Record(FOUR_HANDS)
        for hand, at in ((-1, 0), (0, -1), (-1, -1), (-4, 0), (0, -3), (3, -4), (-5, 0), (0, -1000)):
            self.check_none(record, hand, at)

    def test_hands_without_events(self):
        record = Record([[], [("own", 0, 1)]])
        for hand, at in ((0, 0), (0, -1), (2, 0), (-1, 0), (-2, 0)):
            self.check_none(record, hand, at)
        self.check_none(Record([[]]), 0, 0)


class BadLetterTest(unittest.TestCase):
    def check_bad(self, rows):
        kept = copied(rows)
        check_refused(self, BadLetter, Record, rows)
        self.assertEqual(rows, kept)

    def test_sent_twice(self):
        self.check_bad([[("send", 4, 1), ("send", 4, 1)]])
        self.check_bad([[("send", 4, 1)], [("send", 4, 2)]])
        self.check_bad([[("send", 0, 1)], [("take", 0, 2)], [("send", 0, 2)]])

    def test_taken_twice(self):
        self.check_bad([[("send", 4, 1)], [("take", 4, 1), ("take", 4, 1)]])
        self.check_bad([[("send", 4, 1)], [("take", 4, 1)], [("take", 4, 1)]])
        self.check_bad([[("send", 4, 1), ("take", 4, 1)], [("take", 4, 1)]])

    def test_taken_and_never_sent(self):
        self.check_bad([[("take", 0, 1)]])
        self.check_bad([[("send", 3, 1)], [("take", 4, 1)]])
        self.check_bad([[("own", 0, 1)], [("take", 0, 1)]])
        self.check_bad([[("take", 5, 1), ("take", 5, 1)]])

    def test_bad_letter_goes_ahead_of_ring(self):
        ring = [("take", 1, 0), ("send", 1, 0)]
        self.check_bad([ring, [("take", 2, 0)]])
        self.check_bad([ring, [("send", 2, 0), ("send", 2, 0)]])
        self.check_bad([ring, [("send", 2, 0)], [("take", 2, 0), ("take", 2, 0)]])
        self.check_bad([ring + [("send", 1, 0)]])
        self.check_bad([ring + [("take", 1, 0)]])

    def test_letters_that_are_not_refused(self):
        for rows in (
            [[("send", 4, 1)]],
            [[("send", 4, 1)], [("send", 5, 1)]],
            [[("send", 4, 1), ("take", 4, 2)]],
            [[("send", 4, 1), ("own", 0, 2), ("take", 4, 2)]],
            [[("own", 0, 1), ("own", 0, 1), ("send", 0, 1)], [("own", 0, 1), ("take", 0, 1)]],
        ):
            self.assertEqual(Record(copied(rows)).rows, rows)


class RingTest(unittest.TestCase):
    def check_ring(self, rows):
        kept = copied(rows)
        events = check_refused(self, Ring, Record, rows).events
        self.assertEqual(rows, kept)
        self.assertIsInstance(events, list)
        self.assertGreaterEqual(len(events), 2)
        for event in events:
            self.assertIsInstance(event, tuple)
            self.assertIn(event, all_events(rows))
        for one, other in zip(events, events[1:] + events[:1]):
            self.assertTrue(leads_straight(rows, one, other), (rows, events))

    def test_a_hand_takes_its_own_letter_ahead_of_sending_it(self):
        self.check_ring([[("take", 3, 1), ("send", 3, 2)]])
        self.check_ring([[("own", 0, 1), ("take", 3, 1), ("own", 0, 1), ("own", 0, 1), ("send", 3, 2)]])

    def test_two_hands_wait_for_one_another(self):
        self.check_ring([[("take", 1, 0), ("send", 2, 0)], [("take", 2, 0), ("send", 1, 0)]])

    def test_four_hands_wait_round(self):
        rows = [[("own", 0, 0), ("take", hand, 0), ("own", 0, 0), ("send", (hand + 1) % 4, 0)] for hand in range(4)]
        self.check_ring(rows)

    def test_events_ahead_of_the_ring_and_behind_it(self):
        self.check_ring([
            [("take", 9, 0), ("own", 0, 0)],
            [("own", 0, 0), ("send", 8, 0), ("take", 1, 0), ("own", 0, 0), ("send", 2, 0), ("send", 9, 0)],
            [("take", 8, 0), ("take", 2, 0), ("send", 1, 0)],
        ])

    def test_two_rings(self):
        self.check_ring([[("take", 1, 0), ("send", 1, 0), ("take", 2, 0), ("send", 2, 0)]])


class EveryRecordTest(unittest.TestCase):
    def outcome(self, rows):
        try:
            Record(rows)
        except BadLetter:
            return "bad letter"
        except Ring as ring:
            for one, other in zip(ring.events, ring.events[1:] + ring.events[:1]):
                self.assertTrue(leads_straight(rows, one, other), (rows, ring.events))
            self.assertGreaterEqual(len(ring.events), 2)
            return "ring"
        return "kept"

    def check_all(self, many):
        seen = {}
        for rows in many:
            wanted = "kept"
            if letters_are_bad(rows):
                wanted = "bad letter"
            elif leads_round(rows):
                wanted = "ring"
            self.assertEqual(self.outcome(rows), wanted, rows)
            seen[wanted] = seen.get(wanted, 0) + 1
        return seen

    def test_small_records(self):
        self.assertEqual(sorted(self.check_all(small_rows())), ["bad letter", "kept", "ring"])

    def test_full_records(self):
        self.assertEqual(sorted(self.check_all(full_rows(200))), ["kept", "ring"])


if __name__ == "__main__":
    unittest.main()
