"""What the acts do to the values of things."""

from tests.helper import CallTest, accept, draft, last, run, shown, things, value


def held(*texts):
    """The things behind these changes, each drafted and accepted in turn."""
    calls = []
    for number, text in enumerate(texts, start=1):
        calls += [draft(text), accept(number)]
    given = run([*calls, things()])
    if any(answer[0] != 0 for answer in given):
        raise AssertionError(f"a call was refused: {given}")
    return shown(given[-1])


class ActTest(CallTest):
    def test_set(self):
        self.assertEqual(held("set 3.2 abc\n"), {(3, 2): "abc"})
        self.assertEqual(held("set 3.2 abc\nset 3.2 x1\n"), {(3, 2): "x1"})
        self.assertEqual(held("set 3.2 abcdefghijklmnopqrst\n"), {(3, 2): "abcdefghijklmnopqrst"})

    def test_clear(self):
        self.assertEqual(held("set 1.1 a\nset 1.2 b\nclear 1.1\n"), {(1, 2): "b"})
        self.assertEqual(held("clear 1.1\n"), {})

    def test_copy(self):
        self.assertEqual(held("set 1.1 a\ncopy 1.2 1.1\n"), {(1, 1): "a", (1, 2): "a"})
        self.assertEqual(held("set 1.1 a\ncopy 1.1 1.2\n"), {})

    def test_join(self):
        self.assertEqual(held("set 1.1 ab\nset 1.2 cd\njoin 1.1 1.2\n"), {(1, 1): "abcd", (1, 2): "cd"})
        self.assertEqual(held("set 1.2 cd\njoin 1.1 1.2\n"), {(1, 1): "cd", (1, 2): "cd"})
        self.assertEqual(held("set 1.1 ab\njoin 1.1 1.2\n"), {(1, 1): "ab"})
        self.assertEqual(held("join 1.1 1.2\n"), {})

    def test_join_keeps_the_first_20_signs(self):
        text = "set 1.1 abcdefghijklmno\nset 1.2 1234567890\njoin 1.1 1.2\n"
        self.assertEqual(held(text)[1, 1], "abcdefghijklmno12345")
        text = "set 1.1 abcdefghij\nset 1.2 1234567890\njoin 1.1 1.2\n"
        self.assertEqual(held(text)[1, 1], "abcdefghij1234567890")
        text = "set 1.1 abcdefghijklmnopqrst\nset 1.2 1\njoin 1.1 1.2\n"
        self.assertEqual(held(text)[1, 1], "abcdefghijklmnopqrst")
        text = "set 1.1 a\nset 1.2 bcdefghijklmnopqrstu\njoin 1.1 1.2\n"
        self.assertEqual(held(text)[1, 1], "abcdefghijklmnopqrst")

    def test_swap(self):
        self.assertEqual(held("set 1.1 a\nset 1.2 b\nswap 1.1 1.2\n"), {(1, 1): "b", (1, 2): "a"})

    def test_swap_with_an_empty_thing(self):
        self.assertEqual(held("set 1.1 a\nswap 1.1 1.2\n"), {(1, 2): "a"})
        self.assertEqual(held("set 1.2 a\nswap 1.1 1.2\n"), {(1, 1): "a"})
        self.assertEqual(held("swap 1.1 1.2\n"), {})

    def test_acts_are_done_in_order(self):
        text = "set 1.1 a\ncopy 1.2 1.1\nset 1.1 b\njoin 1.2 1.1\nswap 1.1 1.2\nclear 1.2\n"
        self.assertEqual(held(text), {(1, 1): "ab"})


class FailTest(CallTest):
    def test_need(self):
        self.assertEqual(held("set 1.1 a\n", "need 1.1 a\nset 1.2 b\n"), {(1, 1): "a", (1, 2): "b"})
        self.assertEqual(held("set 1.1 a\n", "need 1.1 b\nset 1.2 b\n"), {(1, 1): "a"})
        self.assertEqual(held("set 1.1 ab\n", "need 1.1 a\nset 1.2 b\n"), {(1, 1): "ab"})
        self.assertEqual(held("set 1.1 a\n", "need 1.1 ab\nset 1.2 b\n"), {(1, 1): "a"})
        self.assertEqual(held("need 1.1 a\nset 1.2 b\n"), {})

    def test_empty(self):
        self.assertEqual(held("empty 1.1\nset 1.2 b\n"), {(1, 2): "b"})
        self.assertEqual(held("set 1.1 a\n", "empty 1.1\nset 1.2 b\n"), {(1, 1): "a"})
        self.assertEqual(held("set 1.1 a\nclear 1.1\n", "empty 1.1\nset 1.2 b\n"), {(1, 2): "b"})

    def test_failing_in_the_middle_does_nothing(self):
        first = "set 1.1 a\nset 1.2 b\n"
        failing = "set 1.1 x\nclear 1.2\nset 1.3 c\nswap 2.1 1.1\nneed 1.2 b\nset 1.4 d\n"
        self.assertEqual(held(first, failing), {(1, 1): "a", (1, 2): "b"})

    def test_failing_at_the_last_act_does_nothing(self):
        self.assertEqual(held("set 1.1 a\nset 1.2 b\nempty 1.1\n"), {})

    def test_need_sees_the_acts_ahead_of_it(self):
        self.assertEqual(held("set 1.1 a\nneed 1.1 a\nset 1.1 b\nneed 1.1 b\n"), {(1, 1): "b"})
        self.assertEqual(held("need 1.1 a\nset 1.1 a\n"), {})
        self.assertEqual(held("set 1.1 a\nset 1.2 b\njoin 1.1 1.2\nneed 1.1 ab\nclear 1.2\n"), {(1, 1): "ab"})

    def test_empty_sees_the_acts_ahead_of_it(self):
        self.assertEqual(held("empty 1.1\nset 1.1 a\nswap 1.1 1.2\nempty 1.1\n"), {(1, 2): "a"})
        self.assertEqual(held("set 1.1 a\n", "clear 1.1\nempty 1.1\nset 1.2 b\n"), {(1, 2): "b"})
        self.assertEqual(held("set 1.1 a\nempty 1.1\n"), {})

    def test_a_failing_change_is_in_force_all_the_same(self):
        calls = [draft("need 1.1 a\nset 1.2 b\n"), accept(1), draft("set 2.1 c\n"), accept(2), things()]
        self.assert_answers(calls, [[0, 1], [0, 2], [0, 2], [0, 1, 2, 1, 1, ord("c")]])


class ValueTest(CallTest):
    def test_new_house(self):
        self.assertEqual(run([things(), value(1, 1), value(20, 9)]), [[0, 0], [0], [0]])

    def test_value(self):
        ahead = [draft("set 3.2 ab9\nset 20.9 z\nset 1.1 0\n"), accept(1)]
        for thing, expected in (((3, 2), b"ab9"), ((20, 9), b"z"), ((1, 1), b"0"), ((2, 3), b""), ((3, 3), b"")):
            self.assertEqual(last([*ahead, value(*thing)]), [0, *expected])

    def test_a_draft_has_no_values_yet(self):
        self.assert_answers([draft("set 1.1 a\n"), things(), value(1, 1)], [[0, 0], [0]])

    def test_things_by_entry_then_by_field(self):
        text = "set 10.1 a\nset 2.9 b\nset 2.1 c\nset 1.9 d\nset 20.1 e\nset 9.9 f\nset 1.2 g\nset 9.1 h\n"
        self.assertEqual(last([draft(text), accept(1), things()]), [
            0, 8, 1, 2, 1, ord("g"), 1, 9, 1, ord("d"), 2, 1, 1, ord("c"), 2, 9, 1, ord("b"),
            9, 1, 1, ord("h"), 9, 9, 1, ord("f"), 10, 1, 1, ord("a"), 20, 1, 1, ord("e")])

    def test_things_tells_how_many_signs(self):
        text = "set 1.1 abc\nset 1.2 abcdefghijklmnopqrst\nset 1.3 x\nclear 1.3\n"
        self.assertEqual(last([draft(text), accept(1), things()]), [
            0, 2, 1, 1, 3, *b"abc", 1, 2, 20, *b"abcdefghijklmnopqrst"])

    def test_value_out_of_range(self):
        ahead = [draft("set 1.1 a\nset 20.9 b\n"), accept(1)]
        for wrong in (0, -1, 10 ** 18, -10 ** 18):
            self.assert_refused(ahead, value(wrong, 1), -1)
            self.assert_refused(ahead, value(1, wrong), -1)
        self.assert_refused(ahead, value(21, 1), -1)
        self.assert_refused(ahead, value(1, 10), -1)
        self.assert_refused(ahead, value(9, 20), -1)
