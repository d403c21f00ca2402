import unittest

from cutway.errors import BadLetter, NoNote, Ring
from cutway.notes import read, shown
from cutway.records import Record
from refusals import check_refused
from samples import FOUR_HANDS, copied, full_rows, kept_rows, leads_straight, small_rows

# Each record beside the text that writes it.
WRITTEN = (
    ([[("own", 0, 5), ("send", 7, 5)], [("take", 7, -3)]], "=5 !7=5\n?7=-3"),
    (FOUR_HANDS, "=1 !0=2 =3\n=-1 ?0=4 !99=5 =6\n?99=7 !50=8\n!7=0 ?7=9 ?50=10 !8=11"),
    ([[]], ""),
    ([[], []], "\n"),
    ([[], [], [], []], "\n\n\n"),
    ([[], [("own", 0, 1)], []], "\n=1\n"),
    ([[("own", 0, 1)], []], "=1\n"),
    ([[], [("own", 0, 1)]], "\n=1"),
    ([[("own", 0, 0)]], "=0"),
    ([[("own", 0, -1)]], "=-1"),
    ([[("own", 0, 1000000000), ("own", 0, -1000000000)]], "=1000000000 =-1000000000"),
    ([[("send", 0, -1000000000), ("take", 0, 1000000000)]], "!0=-1000000000 ?0=1000000000"),
    ([[("send", 99, 999999999), ("take", 99, -999999999)]], "!99=999999999 ?99=-999999999"),
    ([[("send", 10, 100), ("send", 9, 10)]], "!10=100 !9=10"),
    ([[("own", 0, at) for at in range(6)] for hand in range(4)], "\n".join(["=0 =1 =2 =3 =4 =5"] * 4)),
)


class ShownTest(unittest.TestCase):
    def test_line_by_line(self):
        for rows, note in WRITTEN:
            told = shown(Record(rows))
            self.assertIsInstance(told, str)
            self.assertEqual(told, note)

    def test_the_record_stays_as_it_was(self):
        record = Record(FOUR_HANDS)
        shown(record)
        self.assertEqual(record.rows, FOUR_HANDS)
        self.assertEqual(shown(record), shown(record))


class ReadTest(unittest.TestCase):
    def test_texts_that_are_written_so(self):
        for rows, note in WRITTEN:
            told = read(note)
            self.assertIsInstance(told, Record)
            self.assertEqual(told.rows, rows)

    def test_what_is_shown_is_read_as_the_same_rows(self):
        many = kept_rows(small_rows()) + kept_rows(full_rows(60))
        self.assertGreater(len(many), 500)
        for rows in many:
            self.assertEqual(read(shown(Record(copied(rows)))).rows, rows)

    def test_two_records_share_nothing(self):
        first = read("=1\n=2")
        second = read("=1\n=2")
        self.assertIsNot(first.rows, second.rows)
        self.assertIsNot(first.rows[0], second.rows[0])


class NoNoteTest(unittest.TestCase):
    def check_none(self, *notes):
        for note in notes:
            check_refused(self, NoNote, read, note)
            # The same fault counts in any line, behind lines that are good.
            check_refused(self, NoNote, read, "=1 =2\n" + note)

    def test_blanks(self):
        self.check_none(" ", "  ", " =5", "=5 ", "=5  =6", "=5   =6", " =5 =6", "=5 =6 ")
        self.check_none("= 5", "=- 5", "! 7=5", "!7 =5", "!7= 5", "? 7=5")
        check_refused(self, NoNote, read, "=5 \n=6")
        check_refused(self, NoNote, read, "=5\n =6")
        check_refused(self, NoNote, read, "=5\n \n=6")

    def test_other_white_signs(self):
        for sign in "\t\r\v\f\x00\x1c\x85\xa0\u2003\u2028\ufeff":
            self.check_none(sign, "=5" + sign, sign + "=5", "=5" + sign + "=6", "=5 " + sign + "=6", "=" + sign + "5")
            self.check_none("!7" + sign + "=5", "!" + sign + "7=5")
        check_refused(self, NoNote, read, "=5\r\n=6")

    def test_a_nought_ahead(self):
        self.check_none("=05", "=00", "=-05", "=-00", "!07=5", "!00=5", "?07=5", "!099=5", "=01000000000")

    def test_a_minus_or_a_plus(self):
        self.check_none("=-0", "=+5", "=+0", "=--5", "=-+5", "=5-", "!-7=5", "!-0=5", "!+7=5", "?-7=5", "=-")
        check_refused(self, NoNote, read, "!7=5\n?7=-0")

    def test_figures_that_are_not_0_to_9(self):
        for figure in "\u0665\u00b2\uff15\u2164\u4e94\u00bd\u0967\U0001d7d3":
            self.check_none("=" + figure, "=1" + figure, "=-" + figure, "!" + figure + "=5", "!1" + figure + "=5")
        self.check_none("=a", "=0x5", "=0b1", "=1_000", "=1e3", "=5.0", "=1,000", "=\u22125", "!a=5", "!1_0=5")

    def test_letters_beyond_their_bound(self):
        self.check_none("!100=5", "!101=5", "!999=5", "!1000000000=5", "!" + "9" * 5000 + "=5")
        check_refused(self, NoNote, read, "!100=5\n?100=5")
        check_refused(self, NoNote, read, "!99=5\n?100=5")

    def test_values_beyond_their_bounds(self):
        self.check_none("=1000000001", "=-1000000001", "=9999999999", "=10000000000", "=-10000000000")
        self.check_none("!7=1000000001", "!7=-1000000001", "=" + "9" * 5000, "=-" + "9" * 5000)

    def test_a_word_without_its_sign_or_its_number(self):
        self.check_none("5", "-5", "7=5", "=", "!", "?", "!7", "?7", "!=5", "?=5", "!7=", "?7=", "!=", "?=", "a")
        self.check_none("7!=5", "!!7=5", "!?7=5", "?!7=5", "=!7=5", "!7==5", "==5", "=5=5", "!7=5=5", "!7?7=5", "#7=5")
        self.check_none("own", "=5=", "=5!7=5", "!7=5?7=5", "=5,=6", "=5;", "'=5'")

    def test_more_than_four_lines(self):
        for note in ("\n\n\n\n", "=1\n=2\n=3\n=4\n=5", "=1\n=2\n=3\n=4\n", "\n=1\n=2\n=3\n=4", "\n" * 50):
            check_refused(self, NoNote, read, note)
        self.assertEqual(len(read("=1\n=2\n=3\n=4").rows), 4)

    def test_more_than_six_events(self):
        self.check_none(" ".join(["=1"] * 7), " ".join(["=1"] * 50), "!1=1 !2=1 !3=1 !4=1 !5=1 !6=1 !7=1")
        self.assertEqual(len(read(" ".join(["=1"] * 6)).rows[0]), 6)

    def test_a_text_that_is_not_written_so_is_not_looked_at_further(self):
        for note in ("?7=5\n=x", "!7=5 !7=5 =05", "?7=1 !7=1\n =1", "!1=1 !1=1\n\n\n\n", "!1=1 !1=1 =1 =1 =1 =1 =1"):
            check_refused(self, NoNote, read, note)


class RefusedRecordTest(unittest.TestCase):
    def test_bad_letters(self):
        for note in (
            "!7=5 !7=6", "!7=5\n!7=5", "?7=5", "!6=5\n?7=5", "!7=5\n?7=5 ?7=6", "!7=5\n?7=5\n?7=6",
            "=0\n?0=0", "?7=1 !7=1 !7=1",
        ):
            check_refused(self, BadLetter, read, note)

    def check_ring(self, note, rows):
        events = check_refused(self, Ring, read, note).events
        self.assertIsInstance(events, list)
        self.assertGreaterEqual(len(events), 2)
        for one, other in zip(events, events[1:] + events[:1]):
            self.assertTrue(leads_straight(rows, one, other), events)

    def test_rings(self):
        self.check_ring("?7=1 !7=2", [[("take", 7, 1), ("send", 7, 2)]])
        self.check_ring(
            "=1 ?1=0 !2=0\n?2=0 !1=0",
            [[("own", 0, 1), ("take", 1, 0), ("send", 2, 0)], [("take", 2, 0), ("send", 1, 0)]],
        )


if __name__ == "__main__":
    unittest.main()
