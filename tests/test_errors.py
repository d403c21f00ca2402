import unittest

from cutway.errors import BadLetter, NoCut, NoEvent, NoNote, RecordError, Ring

REFUSALS = (BadLetter, Ring, NoEvent, NoCut, NoNote)


class ErrorsTest(unittest.TestCase):
    def test_record_error_is_a_value_error(self):
        self.assertTrue(issubclass(RecordError, ValueError))

    def test_each_refusal_stands_straight_under_record_error(self):
        for refusal in REFUSALS:
            self.assertEqual(refusal.__bases__, (RecordError,))

    def test_no_refusal_stands_under_another(self):
        for one in REFUSALS:
            for other in REFUSALS:
                if one is not other:
                    self.assertFalse(issubclass(one, other))

    def test_a_ring_keeps_its_events_in_a_list_of_its_own(self):
        events = [(0, 0), (0, 1)]
        ring = Ring(events)
        events.append((1, 0))
        self.assertEqual(ring.events, [(0, 0), (0, 1)])


if __name__ == "__main__":
    unittest.main()
