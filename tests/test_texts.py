"""Changes as texts: the forms of the acts, and which line is told as the first wrong one."""

from tests.helper import CallTest, check, draft, last

RIGHT_LINES = (
    "set 1.1 a", "set 20.9 z", "set 10.5 0", "set 3.2 007", "set 3.2 abcdefghijklmnopqrst", "set 3.2 uvwxyz0123456789",
    "set 1.1 set", "clear 1.1", "clear 20.9", "clear 19.8", "copy 1.1 1.2", "copy 2.1 1.1", "join 4.4 5.5",
    "join 1.1 11.1", "swap 20.1 2.1", "need 7.7 x", "need 7.7 abcdefghijklmnopqrst", "empty 9.9",
)

WRONG_LINES = (
    # blanks
    "", " ", "set  1.1 a", "set 1.1  a", " set 1.1 a", "set 1.1 a ", "clear 1.1 ", " clear 1.1", "clear  1.1",
    "copy 1.1  1.2", "set\t1.1\ta", "set1.1 a", "set 1.1a", "set 1. 1 a", "set 1 .1 a",
    # words missing, further words, no such words
    "set", "set 1.1", "set a", "set 1.1 a b", "set 1.1 a 1.2", "clear", "clear 1.1 a", "clear 1.1 1.2", "copy 1.1",
    "copy 1.1 1.2 1.3", "join 1.1", "join 1.1 1.2 1.3", "swap 1.1", "swap 1.1 1.2 1.3", "need 1.1", "need 1.1 a b",
    "empty", "empty 1.1 a", "put 1.1 a", "sets 1.1 a", "se 1.1 a", "1.1 set a", "a", "1.1", "?",
    # things that aren't
    "set 0.1 a", "set 21.1 a", "set 99.1 a", "set 100.1 a", "set 1.0 a", "set 1.10 a", "set 1.11 a", "set 01.1 a",
    "set 1.01 a", "set 001.1 a", "set 020.9 a", "set .1 a", "set 1. a", "set . a", "set 11 a", "set 1 a", "set 1.1.1 a",
    "set 1..1 a", "set .1.1 a", "set 1.1. a", "set 1,1 a", "set -1.1 a", "set +1.1 a", "set 1.-1 a", "set a.1 a",
    "set 1.a a", "set x a", "clear 0.1", "clear 21.9", "clear 1.0", "clear 1.10", "empty 0.1", "empty 1.10",
    "need 21.1 a", "need 1.0 a", "copy 0.1 1.1", "copy 1.1 0.1", "copy 21.1 1.1", "copy 1.1 21.1", "copy 1.1 1.0",
    "copy 1.1 1.10", "copy 1.1 01.2", "copy 1.1 a", "join 1.1 a", "join 1.1 21.1", "swap 1.1 0.9", "swap 1.1 1.02",
    # T and U alike
    "copy 1.1 1.1", "join 3.2 3.2", "swap 20.9 20.9",
    # values that aren't
    "set 1.1 ", "need 1.1 ", "set 1.1 abcdefghijklmnopqrstu", "need 1.1 123456789012345678901", "set 1.1 A",
    "set 1.1 aBc", "set 1.1 a.b", "set 1.1 a-b", "set 1.1 1.2", "set 1.1 ?", "need 1.1 a_b", "need 1.1 Z", "set 1.1 `",
    "set 1.1 {", "set 1.1 /", "set 1.1 :", "set 1.1 @", "set 1.1 [", "set 1.1 a\r", "set 1.1 \x00", "set 1.1 \x7f",
    "set 1.1 \xe9", "set 1.1 \xff", "set 1.1 \xb2", "set 1.\xb9 a", "set\xa01.1 a",
    # big letters in a word
    "Set 1.1 a", "SET 1.1 a", "sEt 1.1 a", "Clear 1.1", "Copy 1.1 1.2", "Join 1.1 1.2", "Swap 1.1 1.2", "Need 1.1 a",
    "Empty 1.1",
)


class LineTest(CallTest):
    def test_right_lines(self):
        for line in RIGHT_LINES:
            with self.subTest(line=line):
                self.assertEqual(last([check(line + "\n")]), [0, 0, 1])
                self.assertEqual(last([draft(line + "\n")]), [0, 1])

    def test_every_thing(self):
        for entry in range(0, 23):
            for field in range(0, 12):
                right = 1 <= entry <= 20 and 1 <= field <= 9
                with self.subTest(entry=entry, field=field):
                    self.assertEqual(last([check(f"clear {entry}.{field}\n")]), [0, 0, 1] if right else [0, 1, 1])

    def test_every_byte_in_a_value(self):
        for byte in range(256):
            right = chr(byte) in "abcdefghijklmnopqrstuvwxyz0123456789"
            text = [*b"set 1.1 a", byte, *b"a\n"]
            wrong = [0, 1, 2] if byte == 10 else [0, 1, 1]
            with self.subTest(byte=byte):
                self.assertEqual(last([check(text)]), [0, 0, 1] if right else wrong)

    def test_wrong_lines(self):
        for line in WRONG_LINES:
            with self.subTest(line=line):
                self.assertEqual(last([check(line + "\n")]), [0, 1, 1])
                self.assertEqual(last([check("clear 1.1\n" + line + "\nclear 1.1\n")]), [0, 1, 2])

    def test_wrong_lines_refuse_a_draft(self):
        for line in WRONG_LINES:
            with self.subTest(line=line):
                self.assertEqual(last([draft("clear 1.1\n" + line + "\n")]), [-3])


class TextTest(CallTest):
    def assert_checked(self, text, expected):
        self.assertEqual(last([check(text)]), [0, *expected])
        self.assertEqual(last([draft(text)]), [-3] if expected[0] == 1 else [0, 1])

    def test_empty_text(self):
        self.assert_checked("", [1, 1])

    def test_line_ends_alone(self):
        self.assert_checked("\n", [1, 1])
        self.assert_checked("\n\n\n", [1, 1])

    def test_no_byte_10_at_the_end(self):
        self.assert_checked("set 1.1 a", [1, 1])
        self.assert_checked("set 1.1 a\nclear 1.1", [1, 2])
        self.assert_checked("set 1.1 a\n ", [1, 2])
        self.assert_checked("set 1.1 a\nx", [1, 2])

    def test_a_further_byte_10_at_the_end(self):
        self.assert_checked("set 1.1 a\n\n", [1, 2])

    def test_an_empty_line_ahead(self):
        self.assert_checked("\nset 1.1 a\n", [1, 1])

    def test_other_line_ends(self):
        self.assert_checked("set 1.1 a\r\n", [1, 1])
        self.assert_checked("set 1.1 a\rset 1.2 b\n", [1, 1])
        self.assert_checked("set 1.1 a\x0bset 1.2 b\n", [1, 1])

    def test_how_many_acts(self):
        for how_many in range(1, 13):
            self.assert_checked("clear 1.1\n" * how_many, [0, how_many])

    def test_thirteen_acts(self):
        self.assert_checked("clear 1.1\n" * 13, [1, 13])
        self.assert_checked("clear 1.1\n" * 20, [1, 13])

    def test_twelve_acts_and_a_rest(self):
        self.assert_checked("clear 1.1\n" * 12 + "clear 1.1", [1, 13])
        self.assert_checked("clear 1.1\n" * 12 + "\n", [1, 13])

    def test_the_first_wrong_line_is_told(self):
        self.assert_checked("clear 1.1\nclear 0.1\nset 1.1\n", [1, 2])
        self.assert_checked("clear 1.1\nclear 1.2\nclear\nclear", [1, 3])
        self.assert_checked("nothing\n" + "clear 1.1\n" * 13, [1, 1])
        self.assert_checked("clear 1.1\n" * 11 + "nothing\n" + "clear 1.1\n" * 3, [1, 12])
        self.assert_checked("clear 1.1\n" * 12 + "nothing\n" + "nothing\n", [1, 13])
        self.assert_checked("clear 1.1\n" * 14 + "nothing\n", [1, 13])

    def test_longest_text(self):
        act = "set 20.9 abcdefghijklmnopqrst\n"
        self.assert_checked(act * 12, [0, 12])
        self.assertEqual(last([check("a" * 600)]), [0, 1, 1])
        self.assertEqual(last([check("\n" * 600)]), [0, 1, 1])
        self.assertEqual(last([check([255] * 600)]), [0, 1, 1])
        self.assertEqual(last([check((act * 20)[:600])]), [0, 1, 13])

    def test_long_rows_of_digits(self):
        self.assert_checked("clear 1." + "1" * 590 + "\n", [1, 1])
        self.assert_checked("clear " + "1" * 590 + ".1\n", [1, 1])
