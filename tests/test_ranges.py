"""-1: numbers out of range, rows too long, bytes that are none, changes told twice; ahead of all other refusals."""

from tests.helper import (
    CallTest, accept, acceptall, change, check, clashes, draft, falls, joinall, last, look, meet, needs, refuse,
    takeall, takeback, things, value, would, writer,
)

WIDEST = 10 ** 18
TEXT = "set 1.1 a\n"
# A draft, one in force, one refused, one taken back, and a draft that stands on the first.
AHEAD = [
    draft(TEXT), draft("set 2.1 b\n"), draft("set 3.1 c\n"), draft("set 4.1 d\n"), draft("join 5.1 1.1\n", [1]),
    accept(2), refuse(3), accept(4), takeback(4),
]
OF_A_CHANGE = (accept, acceptall, refuse, look, takeback, takeall, would, clashes, needs, falls, change)


class ChangeRangeTest(CallTest):
    def test_change_out_of_range(self):
        for call in OF_A_CHANGE:
            for wrong in (0, 41, -1, 1000, -40, WIDEST, -WIDEST):
                with self.subTest(call=call.__name__, change=wrong):
                    self.assert_refused(AHEAD, call(wrong), -1)

    def test_change_in_range_that_is_not_there(self):
        for call in OF_A_CHANGE:
            for absent in (6, 7, 40):
                with self.subTest(call=call.__name__, change=absent):
                    self.assert_refused(AHEAD, call(absent), -5)

    def test_in_a_new_house(self):
        for call in OF_A_CHANGE:
            for change, refusal in ((0, -1), (1, -5), (40, -5), (41, -1)):
                with self.subTest(call=call.__name__, change=change):
                    self.assert_refused([], call(change), refusal)


class MeetRangeTest(CallTest):
    def test_either_out_of_range(self):
        for wrong in (0, 41, -1, -40, 1000, WIDEST, -WIDEST):
            for first, second in ((wrong, 1), (1, wrong), (wrong, wrong), (wrong, 6), (6, wrong), (40, wrong)):
                with self.subTest(first=first, second=second):
                    self.assert_refused(AHEAD, meet(first, second), -1)

    def test_either_not_there(self):
        for absent in (6, 7, 40):
            for first, second in ((absent, 1), (1, absent), (absent, absent), (absent, 3), (4, absent)):
                with self.subTest(first=first, second=second):
                    self.assert_refused(AHEAD, meet(first, second), -5)

    def test_in_a_new_house(self):
        for first, second, refusal in ((1, 1, -5), (40, 1, -5), (0, 1, -1), (1, 0, -1), (41, 40, -1), (40, 41, -1)):
            self.assert_refused([], meet(first, second), refusal)


class ThingRangeTest(CallTest):
    def test_outermost_things(self):
        for entry in (1, 20):
            for field in (1, 9):
                self.assertEqual(last([*AHEAD, writer(entry, field)]), [0, 0])
                self.assertEqual(last([*AHEAD, value(entry, field)]), [0])

    def test_out_of_range(self):
        for call in (value, writer):
            for wrong in (0, -1, -20, WIDEST, -WIDEST):
                for entry, field in ((wrong, 1), (1, wrong), (wrong, wrong), (20, wrong), (wrong, 9)):
                    with self.subTest(call=call.__name__, entry=entry, field=field):
                        self.assert_refused(AHEAD, call(entry, field), -1)
            for entry, field in ((21, 1), (21, 9), (1, 10), (20, 10), (9, 20), (21, 10)):
                with self.subTest(call=call.__name__, entry=entry, field=field):
                    self.assert_refused(AHEAD, call(entry, field), -1)


class DraftRangeTest(CallTest):
    def test_editor(self):
        for editor in range(1, 6):
            self.assertEqual(last([*AHEAD, draft(TEXT, editor=editor)]), [0, 6])
        for editor in (0, 6, -1, WIDEST, -WIDEST):
            with self.subTest(editor=editor):
                self.assert_refused(AHEAD, draft(TEXT, editor=editor), -1)

    def test_stands_out_of_range(self):
        for wrong in (0, 41, -1, WIDEST, -WIDEST):
            for stands in ([wrong], [1, wrong], [wrong, 1], [1, 5, wrong]):
                with self.subTest(stands=stands):
                    self.assert_refused(AHEAD, draft(TEXT, stands), -1)

    def test_how_many_it_stands_on(self):
        four = [draft(TEXT), draft(TEXT), draft(TEXT), draft(TEXT)]
        self.assertEqual(last([*four, draft(TEXT, [4, 2, 3, 1])]), [0, 5])
        five = [*four, draft(TEXT)]
        self.assert_refused(five, draft(TEXT, [1, 2, 3, 4, 5]), -1)
        self.assert_refused(five, draft(TEXT, [1] * 2000), -1)
        self.assert_refused(five, draft(TEXT, list(range(1, 41))), -1)

    def test_one_told_twice(self):
        for stands in ([1, 1], [1, 5, 1], [1, 5, 5], [5, 1, 5, 1]):
            with self.subTest(stands=stands):
                self.assert_refused(AHEAD, draft(TEXT, stands), -1)
        self.assert_refused([], draft(TEXT, [40, 40]), -1)

    def test_text_too_long(self):
        self.assert_refused(AHEAD, draft("a" * 600), -3)
        for length in (601, 602, 1000, 2000):
            with self.subTest(length=length):
                self.assert_refused(AHEAD, draft("a" * length), -1)
                self.assert_refused(AHEAD, draft((TEXT * 200)[:length]), -1)

    def test_no_bytes(self):
        for wrong in (-1, 256, 1000, WIDEST, -WIDEST, ord("a") + 256, 10 - 256):
            for text in ([wrong], [*b"set 1.1 ", wrong, 10], [*b"set 1.1 a\n", wrong], [wrong, *b"set 1.1 a\n"]):
                with self.subTest(text=text):
                    self.assert_refused(AHEAD, draft(text), -1)
        for right in (0, 255):
            self.assert_refused(AHEAD, draft([right]), -3)

    def test_ahead_of_all_other_refusals(self):
        self.assert_refused(AHEAD, draft("wrong", [3], editor=6), -1)
        self.assert_refused(AHEAD, draft("wrong", [3, 41]), -1)
        self.assert_refused(AHEAD, draft("wrong", [3, 3]), -1)
        self.assert_refused(AHEAD, draft([256], [3]), -1)
        full = [draft(TEXT)] * 40
        for wrong in (draft(TEXT, editor=0), draft(TEXT, [1, 1]), draft([-1]), draft("a" * 601)):
            self.assertEqual(last([*full, wrong]), [-1])


class CheckRangeTest(CallTest):
    def test_text_too_long(self):
        self.assertEqual(last([check("a" * 600)]), [0, 1, 1])
        for length in (601, 1000, 2000):
            self.assert_refused(AHEAD, check("a" * length), -1)

    def test_no_bytes(self):
        for wrong in (-1, 256, WIDEST, -WIDEST):
            for text in ([wrong], [*b"set 1.1 a\n", wrong], [wrong] * 2000):
                self.assert_refused(AHEAD, check(text), -1)
        for right in (0, 255):
            self.assertEqual(last([check([right])]), [0, 1, 1])

    def test_what_follows_a_long_row_is_read_from_its_end(self):
        calls = [check([7] * 2000), draft([0] * 2000, [9] * 2000), draft(TEXT), joinall(), things()]
        self.assert_answers(calls, [[-1], [-1], [0, 1], [0, 1, 1], [0, 1, 1, 1, 1, ord("a")]])
