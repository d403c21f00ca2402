import unittest

from cutway.errors import NoEvent, RecordError
from cutway.records import Record
from cutway.ways import came_ahead, clock, road, straight
from refusals import check_refused
from samples import FOUR_HANDS, all_events, copied, full_rows, leads_straight, pairs_ahead, small_rows


class StraightTest(unittest.TestCase):
    def test_the_next_of_the_row_then_the_take(self):
        record = Record(FOUR_HANDS)
        self.assertEqual(straight(record, (0, 0)), [(0, 1)])
        self.assertEqual(straight(record, (0, 1)), [(0, 2), (1, 1)])
        self.assertEqual(straight(record, (1, 2)), [(1, 3), (2, 0)])

    def test_a_send_at_the_end_of_its_row(self):
        record = Record(FOUR_HANDS)
        self.assertEqual(straight(record, (2, 1)), [(3, 2)])

    def test_nothing_behind(self):
        record = Record(FOUR_HANDS)
        self.assertEqual(straight(record, (0, 2)), [])
        self.assertEqual(straight(record, (3, 3)), [])

    def test_one_and_the_same_is_told_twice(self):
        self.assertEqual(straight(Record(FOUR_HANDS), (3, 0)), [(3, 1), (3, 1)])

    def test_the_next_of_the_row_goes_first_where_the_take_is_of_a_lesser_hand(self):
        record = Record([[("take", 1, 0)], [("send", 1, 0), ("own", 0, 0)]])
        self.assertEqual(straight(record, (1, 0)), [(1, 1), (0, 0)])

    def test_a_later_take_of_the_same_row(self):
        record = Record([[("send", 1, 0), ("own", 0, 0), ("take", 1, 0)]])
        self.assertEqual(straight(record, (0, 0)), [(0, 1), (0, 2)])

    def test_an_own_doing_and_a_take_have_no_letter_to_lead_on(self):
        record = Record([[("own", 0, 0)], [("send", 0, 0)], [("take", 0, 0)]])
        self.assertEqual(straight(record, (0, 0)), [])
        self.assertEqual(straight(record, (1, 0)), [(2, 0)])
        self.assertEqual(straight(record, (2, 0)), [])

    def test_the_list_is_a_new_one(self):
        record = Record(FOUR_HANDS)
        straight(record, (0, 1)).clear()
        self.assertEqual(straight(record, (0, 1)), [(0, 2), (1, 1)])


class CameAheadTest(unittest.TestCase):
    def test_along_a_row_and_over_letters(self):
        record = Record(FOUR_HANDS)
        for one, other in (((0, 0), (0, 2)), ((0, 1), (1, 1)), ((0, 0), (3, 3)), ((1, 0), (2, 1)), ((3, 0), (3, 1))):
            self.assertIs(came_ahead(record, one, other), True)
            self.assertIs(came_ahead(record, other, one), False)

    def test_no_road_either_way(self):
        record = Record(FOUR_HANDS)
        for one, other in (((0, 2), (1, 1)), ((0, 0), (1, 0)), ((3, 1), (2, 1)), ((1, 3), (2, 0))):
            self.assertIs(came_ahead(record, one, other), False)
            self.assertIs(came_ahead(record, other, one), False)

    def test_no_event_came_ahead_of_itself(self):
        record = Record(FOUR_HANDS)
        for one in all_events(FOUR_HANDS):
            self.assertIs(came_ahead(record, one, one), False)
            self.assertIsNone(road(record, one, one))


class RoadTest(unittest.TestCase):
    def check_road(self, rows, told, one, other):
        self.assertIsInstance(told, list)
        self.assertGreaterEqual(len(told), 2)
        self.assertEqual((told[0], told[-1]), (one, other))
        for here, there in zip(told, told[1:]):
            self.assertIsInstance(here, tuple)
            self.assertIsInstance(there, tuple)
            self.assertTrue(leads_straight(rows, here, there), told)

    def test_roads_along_a_row_and_over_letters(self):
        record = Record(FOUR_HANDS)
        for one, other in (((0, 0), (0, 1)), ((0, 0), (0, 2)), ((0, 1), (1, 1)), ((0, 0), (3, 3)), ((3, 0), (3, 1))):
            self.check_road(FOUR_HANDS, road(record, one, other), one, other)

    def test_no_road(self):
        record = Record(FOUR_HANDS)
        for one, other in (((0, 2), (0, 0)), ((0, 2), (1, 1)), ((3, 3), (0, 0)), ((0, 0), (1, 0))):
            self.assertIsNone(road(record, one, other))

    def test_a_road_that_was_told_may_be_changed(self):
        record = Record(FOUR_HANDS)
        told = road(record, (0, 0), (3, 3))
        kept = list(told)
        told[0] = (9, 9)
        told.pop()
        again = road(record, (0, 0), (3, 3))
        self.assertEqual(again, kept)
        self.check_road(FOUR_HANDS, again, (0, 0), (3, 3))
        self.assertEqual(straight(record, (0, 0)), [(0, 1)])


class ClockTest(unittest.TestCase):
    def test_letters_over_several_hands(self):
        record = Record(FOUR_HANDS)
        self.assertEqual(clock(record, (1, 1)), (2, 2, 0, 0))
        self.assertEqual(clock(record, (2, 0)), (2, 3, 1, 0))
        self.assertEqual(clock(record, (3, 2)), (2, 3, 2, 3))
        self.assertEqual(clock(record, (3, 3)), (2, 3, 2, 4))

    def test_events_that_nothing_leads_to(self):
        record = Record(FOUR_HANDS)
        self.assertEqual(clock(record, (0, 0)), (1, 0, 0, 0))
        self.assertEqual(clock(record, (1, 0)), (0, 1, 0, 0))
        self.assertEqual(clock(record, (3, 0)), (0, 0, 0, 1))

    def test_one_hand(self):
        record = Record([[("own", 0, 1), ("send", 1, 2), ("take", 1, 3)]])
        self.assertEqual([clock(record, (0, at)) for at in range(3)], [(1,), (2,), (3,)])

    def test_hands_without_events(self):
        record = Record([[], [("own", 0, 1)], []])
        self.assertEqual(clock(record, (1, 0)), (0, 1, 0))

    def test_the_clock_is_a_tuple(self):
        self.assertIsInstance(clock(Record(FOUR_HANDS), (3, 3)), tuple)


class NoEventTest(unittest.TestCase):
    PLACES = ((0, 3), (2, 2), (4, 0), (-1, 0), (0, -1), (-1, -1), (3, -4), (-5, 0), (0, 1000), (1000, 0))

    def check_none(self, call, *handed_in):
        check_refused(self, NoEvent, call, Record(FOUR_HANDS), *handed_in)

    def test_straight_and_clock(self):
        for place in self.PLACES:
            self.check_none(straight, place)
            self.check_none(clock, place)

    def test_came_ahead_and_road_in_either_place(self):
        for place in self.PLACES:
            for call in (came_ahead, road):
                self.check_none(call, place, (0, 0))
                self.check_none(call, (0, 0), place)
                self.check_none(call, (3, 3), place)
                self.check_none(call, place, (3, 3))
                self.check_none(call, place, place)

    def test_a_hand_without_events(self):
        record = Record([[], [("own", 0, 1)]])
        for call in (straight, clock):
            check_refused(self, NoEvent, call, record, (0, 0))
        for call in (came_ahead, road):
            check_refused(self, NoEvent, call, record, (0, 0), (1, 0))
            check_refused(self, NoEvent, call, record, (1, 0), (0, 0))


class EveryRecordTest(unittest.TestCase):
    def check_pair(self, rows, record, one, other, is_ahead):
        self.assertIs(came_ahead(record, one, other), is_ahead, (rows, one, other))
        told = road(record, one, other)
        if is_ahead:
            RoadTest.check_road(self, rows, told, one, other)
        else:
            self.assertIsNone(told)

    def check_event(self, rows, record, ahead, one):
        events = all_events(rows)
        wanted = [other for other in events for times in range(leads_straight(rows, one, other))]
        told = straight(record, one)
        self.assertEqual(sorted(told), sorted(wanted), (rows, one))
        if one[1] + 1 < len(rows[one[0]]):
            self.assertEqual(told[0], (one[0], one[1] + 1))
        counts = [0] * len(rows)
        for other in events:
            if other == one or (other, one) in ahead:
                counts[other[0]] += 1
        self.assertEqual(clock(record, one), tuple(counts), (rows, one))
        for other in events:
            self.check_pair(rows, record, one, other, (one, other) in ahead)

    def check_all(self, many):
        checked = 0
        for rows in many:
            try:
                record = Record(rows)
            except RecordError:
                continue
            kept = copied(rows)
            ahead = pairs_ahead(rows)
            for one in all_events(rows):
                self.check_event(rows, record, ahead, one)
            self.assertEqual(rows, kept)
            self.assertEqual(record.rows, kept)
            checked += 1
        return checked

    def test_small_records(self):
        self.assertGreater(self.check_all(small_rows()), 500)

    def test_full_records(self):
        self.assertGreater(self.check_all(full_rows(60)), 10)


if __name__ == "__main__":
    unittest.main()
