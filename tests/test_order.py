"""order: which things would have other values if those in force were done in another order."""

import itertools

from tests.helper import CallTest, accept, draft, in_turn, last, look, order, refuse, takeback

WIDEST = 10 ** 18


class OrderTest(CallTest):
    def test_new_house(self):
        self.assert_asked([], order([]), [0])

    def test_the_row_itself(self):
        ahead = in_turn("set 1.1 a\n", "set 1.1 b\n", "join 1.2 1.1\n")
        self.assert_asked(ahead, order([1, 2, 3]), [0])
        ahead = [draft("set 1.1 a\n"), draft("set 1.1 b\n"), accept(2), look(1), accept(1)]
        self.assert_asked(ahead, order([2, 1]), [0])
        self.assert_asked(ahead, order([1, 2]), [1, 1, 1])

    def test_an_order_that_comes_to_other_values(self):
        ahead = in_turn("set 1.1 a\n", "set 1.1 b\n", "join 1.2 1.1\n")
        self.assert_asked(ahead, order([2, 1, 3]), [2, 1, 1, 1, 2])
        self.assert_asked(ahead, order([1, 3, 2]), [1, 1, 2])
        self.assert_asked(ahead, order([3, 1, 2]), [1, 1, 2])
        self.assert_asked(ahead, order([3, 2, 1]), [2, 1, 1, 1, 2])

    def test_an_order_that_comes_to_the_same_values(self):
        ahead = in_turn("set 1.1 a\n", "set 2.2 b\n", "set 3.3 c\n")
        for row in itertools.permutations((1, 2, 3)):
            self.assert_asked(ahead, order(row), [0])
        # These meet, but come to the same in either order.
        self.assert_asked(in_turn("set 1.1 a\n", "set 1.1 a\n"), order([2, 1]), [0])
        self.assert_asked(in_turn("clear 1.1\n", "join 2.2 1.1\n"), order([2, 1]), [0])

    def test_only_those_that_do_not_meet_are_moved(self):
        ahead = in_turn("set 1.1 a\n", "copy 2.1 1.1\n", "set 9.9 z\n", "join 8.8 9.9\n")
        for row in ([3, 1, 2, 4], [1, 3, 4, 2], [3, 4, 1, 2], [3, 1, 4, 2]):
            self.assert_asked(ahead, order(row), [0])

    def test_by_entry_then_by_field(self):
        text = "set 10.1 {0}\nset 2.9 {0}\nset 9.9 {0}\nset 20.1 {0}\nset 1.2 {0}\nset 10.9 {0}\nset 2.2 {0}\n"
        ahead = in_turn(text.format("a"), text.format("b"))
        self.assert_asked(ahead, order([2, 1]), [7, 1, 2, 2, 2, 2, 9, 9, 9, 10, 1, 10, 9, 20, 1])

    def test_a_thing_that_would_be_empty_and_one_that_would_not(self):
        self.assert_asked(in_turn("set 1.1 a\n", "clear 1.1\n"), order([2, 1]), [1, 1, 1])
        self.assert_asked(in_turn("clear 1.1\n", "set 1.1 a\n"), order([2, 1]), [1, 1, 1])
        self.assert_asked(in_turn("set 1.1 a\n", "swap 1.1 1.2\n"), order([2, 1]), [2, 1, 1, 1, 2])

    def test_one_that_fails_in_one_order_only(self):
        ahead = in_turn("need 1.1 a\nset 2.1 b\n", "set 1.1 a\n")
        self.assert_asked(ahead, order([2, 1]), [1, 2, 1])
        ahead = in_turn("empty 1.1\nset 2.1 b\n", "set 1.1 a\n")
        self.assert_asked(ahead, order([2, 1]), [1, 2, 1])

    def test_behind_a_take_back(self):
        ahead = [*in_turn("set 1.1 a\n", "set 9.9 z\n", "set 1.1 b\n"), takeback(2)]
        self.assert_asked(ahead, order([3, 1]), [1, 1, 1])
        self.assert_asked(ahead, order([1, 3]), [0])
        self.assert_refused(ahead, order([1, 2, 3]), -11)

    def test_forty(self):
        ahead = in_turn(*[f"set 1.1 v{number}\n" for number in range(1, 41)])
        self.assertEqual(last([*ahead, order(range(1, 41))]), [0, 0])
        self.assertEqual(last([*ahead, order(range(40, 0, -1))]), [0, 1, 1, 1])
        self.assertEqual(last([*ahead, order([*range(2, 40), 1, 40])]), [0, 0])
        self.assertEqual(last([*ahead, order(range(1, 40))]), [-11])


class OrderRefusalTest(CallTest):
    # 1 and 3 are in force, 2 is a draft, 4 refused, 5 taken back.
    AHEAD = [
        draft("set 1.1 a\n"), draft("set 2.1 b\n"), draft("set 3.1 c\n"), draft("set 4.1 d\n"), draft("set 5.1 e\n"),
        accept(1), accept(3), refuse(4), accept(5), takeback(5),
    ]

    def test_just_those_in_force(self):
        self.assert_asked(self.AHEAD, order([1, 3]), [0])
        self.assert_asked(self.AHEAD, order([3, 1]), [0])

    def test_too_few(self):
        for row in ([], [1], [3]):
            self.assert_refused(self.AHEAD, order(row), -11)

    def test_one_that_is_not_in_force(self):
        for other in (2, 4, 5):
            for row in ([1, 3, other], [other, 1, 3], [1, other], [other]):
                self.assert_refused(self.AHEAD, order(row), -11)

    def test_a_number_with_no_change(self):
        for other in (6, 40):
            for row in ([1, 3, other], [1, other], [other]):
                self.assert_refused(self.AHEAD, order(row), -11)

    def test_in_a_new_house(self):
        self.assert_refused([], order([1]), -11)
        self.assert_refused([draft("set 1.1 a\n")], order([1]), -11)

    def test_too_long(self):
        self.assert_refused(self.AHEAD, order(range(1, 41)), -11)
        self.assert_refused(self.AHEAD, order(range(1, 42)), -1)
        self.assert_refused(self.AHEAD, order([*range(1, 41), 1]), -1)
        self.assert_refused(self.AHEAD, order([1] * 2000), -1)
        self.assert_refused(self.AHEAD, order([WIDEST] * 2000), -1)

    def test_out_of_range(self):
        for wrong in (0, 41, -1, -3, WIDEST, -WIDEST):
            for row in ([wrong], [1, 3, wrong], [wrong, 3], [1, wrong, 3]):
                with self.subTest(row=row):
                    self.assert_refused(self.AHEAD, order(row), -1)
        self.assert_refused([], order([0]), -1)

    def test_one_told_twice(self):
        for row in ([1, 1], [1, 3, 1], [1, 3, 3], [2, 2], [40, 40], [3, 1, 1, 3]):
            self.assert_refused(self.AHEAD, order(row), -1)

    def test_what_follows_a_long_row_is_read_from_its_end(self):
        calls = [*self.AHEAD, order([7] * 2000), order([1, 3]), order([]), order([3, 1])]
        self.assert_answers(calls, [[-1], [0, 0], [-11], [0, 0]])
