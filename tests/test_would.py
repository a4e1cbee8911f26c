"""would: whether a draft would fail if it were done now, and which things would have another value."""

from tests.helper import CallTest, accept, draft, last, look, refuse, run, signs, takeback, things, would

# 1.1 is a, 1.2 is b, 2.1 is twenty signs long.
AHEAD = [draft("set 1.1 a\nset 1.2 b\nset 2.1 abcdefghijklmnopqrst\n"), accept(1)]


class WouldTest(CallTest):
    def assert_would(self, text, expected):
        self.assert_asked([*AHEAD, draft(text)], would(2), expected)

    def test_one_that_does_not_fail(self):
        self.assert_would("set 3.3 xyz\n", [1, 1, 3, 3, *signs("xyz")])
        self.assert_would("need 1.1 a\nset 1.1 b\n", [1, 1, 1, 1, *signs("b")])
        self.assert_would("empty 3.3\ncopy 3.3 1.1\n", [1, 1, 3, 3, *signs("a")])
        self.assert_would("swap 1.1 1.2\n", [1, 2, 1, 1, *signs("b"), 1, 2, *signs("a")])
        self.assert_would("join 1.1 1.2\n", [1, 1, 1, 1, *signs("ab")])
        self.assert_would("join 1.1 2.1\n", [1, 1, 1, 1, *signs("aabcdefghijklmnopqrs")])

    def test_one_that_fails(self):
        self.assert_would("need 1.1 x\n", [0, 0])
        self.assert_would("empty 1.1\nset 3.3 x\n", [0, 0])
        self.assert_would("set 3.3 x\nclear 1.1\nneed 1.1 a\n", [0, 0])
        self.assert_would("set 3.3 x\nset 1.1 q\nempty 3.3\nset 4.4 y\n", [0, 0])

    def test_one_that_only_reads(self):
        self.assert_would("need 1.1 a\nempty 3.3\n", [1, 0])

    def test_a_value_that_is_there_already(self):
        self.assert_would("set 1.1 a\n", [1, 0])
        self.assert_would("set 1.1 a\nset 1.2 c\n", [1, 1, 1, 2, *signs("c")])
        self.assert_would("clear 3.3\n", [1, 0])
        self.assert_would("copy 3.3 4.4\n", [1, 0])
        self.assert_would("swap 3.3 4.4\n", [1, 0])
        self.assert_would("join 1.1 3.3\n", [1, 0])
        self.assert_would("join 2.1 1.1\n", [1, 0])

    def test_one_that_empties_a_thing(self):
        self.assert_would("clear 1.1\n", [1, 1, 1, 1, 0])
        self.assert_would("copy 1.1 3.3\n", [1, 1, 1, 1, 0])
        self.assert_would("swap 2.2 1.1\n", [1, 2, 1, 1, 0, 2, 2, *signs("a")])

    def test_one_that_restores_a_thing(self):
        self.assert_would("set 1.1 x\nset 1.1 a\n", [1, 0])
        self.assert_would("swap 1.1 1.2\nswap 1.2 1.1\n", [1, 0])
        self.assert_would("clear 1.1\nset 3.3 y\nset 1.1 a\n", [1, 1, 3, 3, *signs("y")])
        self.assert_would("set 3.3 y\nclear 3.3\n", [1, 0])

    def test_by_entry_then_by_field(self):
        text = "set 10.1 j\nset 2.9 k\nset 9.9 l\nset 20.1 m\nclear 1.2\nset 10.9 n\nclear 1.1\nset 2.2 o\n"
        self.assert_would(text, [
            1, 8, 1, 1, 0, 1, 2, 0, 2, 2, *signs("o"), 2, 9, *signs("k"), 9, 9, *signs("l"), 10, 1, *signs("j"),
            10, 9, *signs("n"), 20, 1, *signs("m")])

    def test_only_what_is_unlike_now_is_told(self):
        # 2.1 and 1.2 are as they were, though the change writes them.
        self.assert_would("set 1.1 q\nset 1.2 b\njoin 2.1 1.1\n", [1, 1, 1, 1, *signs("q")])

    def test_one_that_clashes(self):
        ahead = [draft("join 1.1 1.2\n"), draft("set 1.1 a\nset 1.2 b\n"), accept(2)]
        self.assertEqual(last([*ahead, accept(1)]), [-7])
        self.assert_asked(ahead, would(1), [1, 1, 1, 1, *signs("ab")])

    def test_one_that_clashes_and_fails(self):
        ahead = [draft("empty 1.1\nset 1.2 c\n"), draft("set 1.1 a\n"), accept(2)]
        self.assertEqual(last([*ahead, accept(1)]), [-7])
        self.assert_asked(ahead, would(1), [0, 0])

    def test_one_that_lacks_another(self):
        # What it stands on isn't done first.
        ahead = [draft("set 1.1 a\n"), draft("copy 2.1 1.1\nset 3.1 c\n", [1]), draft("need 1.1 a\n", [1])]
        self.assert_asked(ahead, would(2), [1, 1, 3, 1, *signs("c")])
        self.assert_asked(ahead, would(3), [0, 0])

    def test_it_goes_with_what_is_in_force(self):
        calls = [draft("empty 1.1\nset 1.1 x\n"), draft("set 1.1 a\n"), would(1), accept(2), would(1), takeback(2)]
        given = run([*calls, would(1), accept(1), things()])
        told = [0, 1, 1, 1, 1, *signs("x")]
        self.assertEqual(given[2:], [told, [0, 1], [0, 0, 0], [0], told, [0, 1], [0, 1, 1, 1, *signs("x")]])

    def test_what_would_be_is_when_it_is_accepted(self):
        ahead = [*AHEAD, draft("swap 1.1 3.3\njoin 3.3 1.2\nclear 1.2\n")]
        self.assertEqual(last([*ahead, would(2)]), [0, 1, 3, 1, 1, 0, 1, 2, 0, 3, 3, *signs("ab")])
        held = [0, 2, 2, 1, *signs("abcdefghijklmnopqrst"), 3, 3, *signs("ab")]
        self.assertEqual(last([*ahead, accept(2), things()]), held)

    def test_in_a_house_with_none_in_force(self):
        self.assert_asked([draft("set 20.9 z\n")], would(1), [1, 1, 20, 9, *signs("z")])
        self.assert_asked([draft("need 1.1 a\n")], would(1), [0, 0])

    def test_no_such_change(self):
        self.assert_refused([], would(1), -5)
        self.assert_refused(AHEAD, would(2), -5)

    def test_no_draft(self):
        self.assert_refused(AHEAD, would(1), -6)
        self.assert_refused([draft("set 1.1 a\n"), refuse(1)], would(1), -6)
        self.assert_refused([draft("set 1.1 a\n"), accept(1), takeback(1)], would(1), -6)
        self.assertEqual(last([draft("set 1.1 a\n"), look(1), would(1)]), [0, 1, 1, 1, 1, *signs("a")])
