"""The calls that only ask, but for would and order: ordinary cases, and each refusal told with them."""

from tests.helper import (
    CallTest, accept, acceptall, change, clashes, draft, falls, force, in_turn, joinall, last, look, meet, needs,
    refuse, run, state, takeall, takeback, things, writer,
)

A = "set 1.1 a\n"
FAR = "set 9.9 z\n"


def listed(*numbers):
    return [len(numbers), *numbers]


class ClashesTest(CallTest):
    def test_none(self):
        self.assert_asked([draft(A)], clashes(1), [0])
        self.assert_asked([draft(A), draft(A)], clashes(1), [0])
        self.assert_asked([draft(A), draft(FAR), accept(2)], clashes(1), [0])

    def test_those_that_feed_it_and_those_it_feeds(self):
        ahead = [draft("copy 1.1 1.2\n"), draft("set 1.1 a\n"), draft("set 1.2 b\n"), draft("need 1.3 c\n")]
        self.assert_asked([*ahead, accept(2), accept(3), accept(4)], clashes(1), listed(2, 3))
        ahead = [draft("set 1.1 a\n"), draft("need 1.1 b\n"), draft("copy 2.2 1.1\n"), draft("empty 1.1\n")]
        self.assert_asked([*ahead, accept(4), accept(2), accept(3)], clashes(1), listed(4, 2, 3))

    def test_in_the_order_of_the_row(self):
        ahead = [draft("swap 1.1 1.2\njoin 1.3 1.4\n"), *[draft(f"set 1.{field} x\n") for field in range(1, 5)]]
        self.assert_asked([*ahead, *map(accept, (4, 2, 5, 3))], clashes(1), listed(4, 2, 5, 3))
        self.assert_asked([*ahead, *map(accept, (5, 4, 3, 2))], clashes(1), listed(5, 4, 3, 2))
        self.assert_asked([*ahead, *map(accept, (5, 4, 3, 2)), takeback(4)], clashes(1), listed(5, 3, 2))

    def test_those_it_knows_are_left_out(self):
        ahead = [draft(A), draft("need 1.1 a\n", [1]), accept(1), draft("clear 1.1\n"), accept(3)]
        self.assert_asked(ahead, clashes(2), listed(3))
        ahead = [draft(A), draft("copy 1.2 1.1\n"), accept(1), look(2), draft("set 1.2 q\n"), accept(3)]
        self.assert_asked(ahead, clashes(2), listed(3))
        self.assert_asked([*ahead, look(2)], clashes(2), [0])

    def test_behind_a_look_it_knows_no_more_what_it_stood_on(self):
        ahead = [draft(A), draft("need 1.1 a\n", [1]), look(2), accept(1)]
        self.assert_asked(ahead, clashes(2), listed(1))

    def test_one_that_fails_clashes_all_the_same(self):
        ahead = [draft("set 1.1 a\n"), draft("need 5.5 never\nclear 1.1\n"), accept(2)]
        self.assert_asked(ahead, clashes(1), listed(2))

    def test_no_such_change(self):
        self.assert_refused([], clashes(1), -5)
        self.assert_refused([draft(A)], clashes(2), -5)

    def test_no_draft(self):
        self.assert_refused([draft(A), accept(1)], clashes(1), -6)
        self.assert_refused([draft(A), refuse(1)], clashes(1), -6)
        self.assert_refused([draft(A), accept(1), takeback(1)], clashes(1), -6)


class NeedsTest(CallTest):
    # 3 and 1 are in force, in this order; the taker is fed by each of them, by 2, and by any that writes 1.4.
    SEEN = [draft("set 1.1 a\n"), draft("set 1.2 b\n"), draft("set 1.3 c\n"), accept(3), accept(1)]
    TAKER = "join 1.1 1.2\njoin 1.3 1.4\n"

    def test_none(self):
        self.assert_asked([draft(A)], needs(1), [0, 0])
        self.assert_asked([draft(A), draft("copy 2.1 1.1\n")], needs(2), [0, 0])
        self.assert_asked([draft(FAR), accept(1), draft(A)], needs(2), [0, 0])

    def test_those_it_feeds_itself_are_not_needed(self):
        ahead = [draft("need 1.1 a\n"), accept(1), draft("copy 2.1 1.2\n"), draft("set 1.1 a\nset 1.2 b\n", [2])]
        self.assert_asked(ahead, needs(3), [0, 0])

    def test_first_those_in_force_in_their_order_then_those_it_stands_on_as_told(self):
        ahead = [*self.SEEN, draft("set 1.4 d\n"), draft(self.TAKER, [4, 2]), draft("clear 1.1\n")]
        self.assert_asked(ahead, needs(5), [*listed(3, 1, 4, 2), *listed(4, 2)])
        ahead[-2] = draft(self.TAKER, [2, 4])
        self.assert_asked(ahead, needs(5), [*listed(3, 1, 2, 4), *listed(2, 4)])

    def test_only_those_that_feed_it(self):
        ahead = [*self.SEEN, draft("copy 5.1 1.2\n"), draft("copy 2.1 1.3\ncopy 2.2 1.2\n", [4, 2])]
        self.assert_asked(ahead, needs(5), [*listed(3, 2), *listed(2)])

    def test_the_order_is_that_of_then(self):
        # 3 is taken back behind the draft, and stays the first of those that it saw.
        ahead = [*self.SEEN, draft(self.TAKER, [2]), takeback(3), accept(2)]
        self.assert_asked(ahead, needs(4), [*listed(3, 1, 2), *listed(3)])
        self.assert_asked([*ahead, takeback(1)], needs(4), [*listed(3, 1, 2), *listed(3, 1)])

    def test_behind_a_look(self):
        ahead = [*self.SEEN, draft(self.TAKER, [2]), accept(2), takeback(3)]
        self.assert_asked([*ahead, look(4)], needs(4), [*listed(1, 2), 0])
        self.assert_asked([*self.SEEN, draft(self.TAKER, [2]), look(4)], needs(4), [*listed(3, 1), 0])

    def test_of_one_in_force(self):
        ahead = [*self.SEEN, draft(self.TAKER, [2]), accept(2), accept(4)]
        self.assert_asked(ahead, needs(4), [*listed(3, 1, 2), 0])

    def test_of_a_refused_one(self):
        ahead = [*self.SEEN, draft(self.TAKER, [2]), refuse(4)]
        self.assert_asked(ahead, needs(4), [*listed(3, 1, 2), *listed(2)])
        self.assert_asked([*ahead, accept(2)], needs(4), [*listed(3, 1, 2), 0])
        self.assert_asked([*ahead, takeback(1), refuse(2)], needs(4), [*listed(3, 1, 2), *listed(1, 2)])

    def test_of_one_taken_back(self):
        ahead = [*self.SEEN, draft(self.TAKER, [2]), accept(2), accept(4)]
        self.assert_asked([*ahead, takeback(4)], needs(4), [*listed(3, 1, 2), 0])
        self.assert_asked([*ahead, takeall(1)], needs(4), [*listed(3, 1, 2), *listed(1)])

    def test_lacks_one_that_is_a_draft_refused_or_taken_back(self):
        ahead = [draft(A), draft("copy 2.1 1.1\n", [1])]
        for behind in ([], [refuse(1)], [accept(1), takeback(1)]):
            self.assert_asked([*ahead, *behind], needs(2), [*listed(1), *listed(1)])
        self.assert_asked([*ahead, accept(1)], needs(2), [*listed(1), 0])

    def test_not_through_others(self):
        ahead = [draft(A), draft("copy 2.1 1.1\n", [1]), draft("copy 3.1 2.1\njoin 3.1 1.1\n", [2])]
        self.assert_asked(ahead, needs(3), [*listed(2), *listed(2)])

    def test_no_such_change(self):
        self.assert_refused([], needs(1), -5)
        self.assert_refused([draft(A)], needs(2), -5)


class FallsTest(CallTest):
    ROW = in_turn("set 1.1 a\n", "copy 2.1 1.1\n", FAR, "copy 3.1 2.1\n", "copy 8.1 9.9\n")

    def test_along_the_row(self):
        for number, fallen in ((1, (1, 2, 4)), (2, (2, 4)), (3, (3, 5)), (4, (4,)), (5, (5,))):
            self.assert_asked(self.ROW, falls(number), listed(*fallen))

    def test_in_the_order_of_the_row(self):
        ahead = [draft("copy 3.1 1.1\n"), draft("copy 2.1 1.1\n"), draft(A), accept(3)]
        ahead += [look(2), accept(2), look(1), accept(1)]
        self.assert_asked(ahead, falls(3), listed(3, 2, 1))

    def test_none_ahead_of_it_falls(self):
        ahead = in_turn("set 1.1 a\n", "set 1.1 b\n", "set 1.1 c\n")
        self.assert_asked(ahead, falls(2), listed(2, 3))
        self.assert_asked(ahead, falls(3), listed(3))

    def test_one_that_it_only_reads_stays(self):
        self.assert_asked(in_turn("copy 2.1 1.1\n", "set 1.1 a\n"), falls(1), listed(1))

    def test_one_that_fails_feeds_all_the_same(self):
        self.assert_asked(in_turn("need 5.5 x\nset 1.1 a\n", "copy 2.1 1.1\n"), falls(1), listed(1, 2))

    def test_as_takeall_and_takeback(self):
        for number in range(1, 6):
            told = last([*self.ROW, falls(number)])
            self.assertEqual(last([*self.ROW, takeall(number)]), told)
            self.assertEqual(last([*self.ROW, takeback(number)]), [0] if told[1] == 1 else [-10])

    def test_those_gone_do_not_fall(self):
        self.assert_asked([*self.ROW, takeback(4)], falls(1), listed(1, 2))
        self.assert_asked([*self.ROW, takeall(2), draft("join 1.1 2.1\n")], falls(1), listed(1))

    def test_no_such_change(self):
        self.assert_refused([], falls(1), -5)
        self.assert_refused(self.ROW, falls(6), -5)

    def test_not_in_force(self):
        self.assert_refused([draft(A)], falls(1), -9)
        self.assert_refused([draft(A), refuse(1)], falls(1), -9)
        self.assert_refused([draft(A), accept(1), takeback(1)], falls(1), -9)


class MeetTest(CallTest):
    def test_one_feeds_the_other(self):
        ahead = [draft(A), draft("copy 2.1 1.1\n")]
        self.assert_asked(ahead, meet(1, 2), [1, 1])
        # Only the second feeds the first.
        self.assert_asked(ahead, meet(2, 1), [1, 0])

    def test_both_feed_each_other(self):
        ahead = [draft(A), draft("clear 1.1\n"), draft("swap 1.1 2.1\n")]
        for first, second in ((1, 2), (2, 1), (1, 3), (3, 2)):
            self.assert_asked(ahead, meet(first, second), [1, 1])

    def test_none_feeds_the_other(self):
        ahead = [draft(A), draft(FAR), draft("need 2.1 x\ncopy 3.1 2.1\n"), draft("empty 2.1\n")]
        for first, second in ((1, 2), (2, 1), (1, 3), (3, 4), (4, 3), (4, 2)):
            self.assert_asked(ahead, meet(first, second), [0, 0])

    def test_with_itself(self):
        ahead = [draft("need 1.1 a\nempty 2.1\n"), draft(A), draft("copy 1.1 2.1\n"), draft("empty 1.1\nclear 3.1\n")]
        self.assert_asked(ahead, meet(1, 1), [0, 0])
        for number in (2, 3, 4):
            self.assert_asked(ahead, meet(number, number), [1, 1])

    def test_of_every_condition(self):
        ahead = [draft(A), draft("need 1.1 a\n"), draft("need 1.1 a\n"), draft("need 1.1 a\n"), draft("empty 1.1\n")]
        ahead += [accept(2), refuse(3), accept(4), takeback(4), refuse(1)]
        for number in (2, 3, 4, 5):
            self.assert_asked(ahead, meet(1, number), [1, 1])
            self.assert_asked(ahead, meet(number, 1), [1, 0])

    def test_whether_they_know_each_other_or_not(self):
        self.assert_asked([draft(A), draft("need 1.1 a\n", [1])], meet(1, 2), [1, 1])
        self.assert_asked([draft(A), accept(1), draft("need 1.1 a\n")], meet(2, 1), [1, 0])

    def test_no_such_change(self):
        self.assert_refused([], meet(1, 1), -5)
        for first, second in ((1, 2), (2, 1), (2, 2), (40, 1), (1, 40)):
            self.assert_refused([draft(A)], meet(first, second), -5)

    def test_out_of_range_ahead_of_no_such_change(self):
        for first, second in ((2, 0), (0, 2), (2, 41), (41, 2)):
            self.assert_refused([draft(A)], meet(first, second), -1)


class ChangeTest(CallTest):
    TWELVE = "set 20.9 abcdefghijklmnopqrst\n" * 6 + "swap 1.1 2.2\nneed 3.3 007\nempty 4.4\n" * 2

    def test_each_condition(self):
        ahead = [draft(A, editor=2), draft(FAR, editor=3), draft(A, editor=4), draft("set 2.2 b\n", editor=5)]
        ahead += [accept(2), refuse(3), accept(4), takeback(4)]
        self.assert_asked(ahead, change(1), [2, 0, 0, 0, *A.encode()])
        self.assert_asked(ahead, change(2), [3, 1, 0, 0, *FAR.encode()])
        self.assert_asked(ahead, change(3), [4, 2, 0, 0, *A.encode()])
        self.assert_asked(ahead, change(4), [5, 3, 0, 0, *b"set 2.2 b\n"])

    def test_every_editor(self):
        for editor in range(1, 6):
            self.assert_asked([draft(A, editor=editor)], change(1), [editor, 0, 0, 0, *A.encode()])

    def test_how_many_were_in_force_and_those_it_stands_on(self):
        ahead = [*in_turn(A, FAR), draft("set 2.1 b\n"), draft("set 3.1 c\n"), draft("set 4.1 d\n", [4, 3])]
        self.assert_asked(ahead, change(3), [1, 0, 2, 0, *b"set 2.1 b\n"])
        self.assert_asked(ahead, change(5), [1, 0, 2, 2, 4, 3, *b"set 4.1 d\n"])
        four = [draft(A), draft(A), draft(A), draft(A), draft(FAR, [3, 1, 4, 2])]
        self.assert_asked(four, change(5), [1, 0, 0, 4, 3, 1, 4, 2, *FAR.encode()])

    def test_those_accepted_later_are_not_counted(self):
        self.assert_asked([draft(A), draft(FAR), accept(2)], change(1), [1, 0, 0, 0, *A.encode()])

    def test_what_becomes_of_those_it_stands_on_alters_nothing(self):
        ahead = [draft(A), draft("set 2.1 b\n"), draft("set 3.1 c\n"), draft(FAR, [3, 2, 1])]
        ahead += [accept(1), refuse(2), accept(3), takeback(3)]
        self.assert_asked(ahead, change(4), [1, 0, 0, 3, 3, 2, 1, *FAR.encode()])
        self.assert_asked([*ahead, accept(4)], change(4), [1, 1, 0, 3, 3, 2, 1, *FAR.encode()])

    def test_behind_a_look(self):
        ahead = [draft(A), draft("set 2.1 b\n"), draft(FAR, [2], editor=4), accept(1)]
        self.assert_asked(ahead, change(3), [4, 0, 0, 1, 2, *FAR.encode()])
        self.assert_asked([*ahead, look(3)], change(3), [4, 0, 1, 0, *FAR.encode()])
        self.assert_asked([*ahead, look(3), accept(2)], change(3), [4, 0, 1, 0, *FAR.encode()])
        self.assert_asked([*ahead, look(3), accept(2), look(3)], change(3), [4, 0, 2, 0, *FAR.encode()])

    def test_behind_a_take_back_of_those_it_knows(self):
        ahead = [*in_turn(A, "set 2.1 b\n"), draft(FAR), takeback(1)]
        self.assert_asked(ahead, change(3), [1, 0, 2, 0, *FAR.encode()])
        self.assert_asked([*ahead, takeback(2)], change(3), [1, 0, 2, 0, *FAR.encode()])
        self.assert_asked([*ahead, accept(3)], change(3), [1, 1, 2, 0, *FAR.encode()])
        self.assert_asked([*ahead, look(3)], change(3), [1, 0, 1, 0, *FAR.encode()])

    def test_a_refused_look_alters_nothing(self):
        ahead = [*in_turn(A), draft(FAR), refuse(2), look(2), takeback(1)]
        self.assert_asked(ahead, change(2), [1, 2, 1, 0, *FAR.encode()])

    def test_texts_of_one_act_and_of_twelve(self):
        for text in (A, "empty 20.9\n", "join 10.1 1.9\n", self.TWELVE, "clear 1.1\n" * 12):
            self.assert_asked([draft(text)], change(1), [1, 0, 0, 0, *text.encode()])
        longest = "set 20.9 abcdefghijklmnopqrst\n" * 12
        self.assertEqual(last([draft(longest), change(1)]), [0, 1, 0, 0, 0, *longest.encode()])

    def test_the_text_stays_as_it_was_drafted(self):
        ahead = [draft(self.TWELVE), acceptall(1), draft(A), takeall(1)]
        self.assert_asked(ahead, change(1), [1, 3, 0, 0, *self.TWELVE.encode()])

    def test_no_such_change(self):
        self.assert_refused([], change(1), -5)
        self.assert_refused([draft(A), draft("wrong")], change(2), -5)


class WriterTest(CallTest):
    def test_nobody(self):
        self.assert_asked([], writer(1, 1), [0])
        self.assert_asked([draft(A)], writer(1, 1), [0])
        self.assert_asked([draft(A), refuse(1)], writer(1, 1), [0])
        self.assert_asked(in_turn("need 1.1 a\ncopy 2.2 1.1\n"), writer(1, 1), [0])
        self.assert_asked(in_turn(A), writer(1, 2), [0])
        self.assert_asked(in_turn("set 2.1 a\n"), writer(1, 2), [0])

    def test_each_act(self):
        for act in ("set 3.2 a", "clear 3.2", "copy 3.2 1.1", "join 3.2 1.1", "swap 3.2 1.1", "swap 1.1 3.2"):
            self.assert_asked(in_turn(act + "\n"), writer(3, 2), [1])
        for act in ("need 3.2 a", "empty 3.2", "copy 1.1 3.2", "join 1.1 3.2"):
            self.assert_asked(in_turn(act + "\n"), writer(3, 2), [0])

    def test_the_last_in_the_row(self):
        ahead = [draft(A), draft("clear 1.1\n"), draft(FAR), accept(2), look(1), accept(1), accept(3)]
        self.assert_asked(ahead, writer(1, 1), [1])
        self.assert_asked(ahead, writer(9, 9), [3])
        self.assert_asked(in_turn(A, "set 1.1 b\n", FAR), writer(1, 1), [2])

    def test_one_that_fell(self):
        self.assert_asked([*in_turn(A), takeback(1)], writer(1, 1), [0])
        self.assert_asked([*in_turn(A, "set 1.1 b\n"), takeback(2)], writer(1, 1), [1])
        self.assert_asked([*in_turn(A, "set 1.1 b\n"), takeall(1)], writer(1, 1), [0])

    def test_one_that_fails(self):
        self.assert_asked(in_turn("need 5.5 never\nset 1.1 a\n"), writer(1, 1), [1])
        self.assert_asked(in_turn(A, "set 1.1 b\nneed 5.5 never\n"), writer(1, 1), [2])

    def test_one_that_leaves_the_value_as_it_is(self):
        self.assert_asked(in_turn(A, A), writer(1, 1), [2])
        self.assert_asked(in_turn("clear 1.1\n"), writer(1, 1), [1])

    def test_the_outermost_things(self):
        self.assert_asked(in_turn("set 20.9 a\nset 1.1 b\nset 20.1 c\nset 1.9 d\n"), writer(20, 9), [1])
        self.assert_asked(in_turn("set 20.1 c\n", "set 1.9 d\n"), writer(20, 1), [1])
        self.assert_asked(in_turn("set 20.1 c\n", "set 1.9 d\n"), writer(1, 9), [2])


class ForceTest(CallTest):
    def test_new_house(self):
        self.assert_asked([], force(), [0])

    def test_in_the_order_of_accepting(self):
        ahead = [draft(A), draft(FAR), draft("set 2.1 b\n"), draft("set 3.1 c\n"), accept(3), accept(1), accept(2)]
        self.assert_asked(ahead, force(), listed(3, 1, 2))
        self.assert_asked([*ahead, takeback(1)], force(), listed(3, 2))
        self.assert_asked([*ahead, takeback(1), joinall()], force(), listed(3, 2, 4))

    def test_neither_drafts_nor_refused_nor_taken_back(self):
        ahead = [draft(A), draft(FAR), draft("set 2.1 b\n"), refuse(2), accept(3), takeback(3)]
        self.assert_asked(ahead, force(), [0])

    def test_full_house(self):
        full = in_turn(*[f"set 1.1 v{number}\n" for number in range(1, 41)])
        self.assertEqual(last([*full, force()]), [0, *listed(*range(1, 41))])
        drafts = [draft(f"set {number % 20 + 1}.{number // 20} x\n") for number in range(20, 60)]
        backwards = list(range(40, 0, -1))
        self.assert_asked([*drafts, *map(accept, backwards)], force(), listed(*backwards))


class StateTest(CallTest):
    def test_new_house(self):
        self.assert_asked([], state(), [0, 0, 0, 0])

    def test_state(self):
        ahead = [draft("set 1.1 a\nset 1.2 b\nset 1.3 c\n"), draft(FAR), draft(A), draft("clear 1.2\n", [1]), draft(A)]
        self.assert_asked(ahead, state(), [5, 5, 0, 0])
        ahead += [accept(1), accept(2)]
        self.assert_asked(ahead, state(), [5, 3, 2, 4])
        ahead += [accept(4), refuse(3)]
        self.assert_asked(ahead, state(), [5, 1, 3, 3])
        self.assert_asked([*ahead, takeall(1)], state(), [5, 1, 1, 1])
        self.assert_asked([*ahead, takeall(1), takeback(2), refuse(5)], state(), [5, 0, 0, 0])

    def test_one_that_fails_is_in_force(self):
        self.assert_asked(in_turn("need 1.1 x\nset 1.2 b\n"), state(), [1, 0, 1, 0])

    def test_a_refused_draft_is_no_change(self):
        self.assert_asked([draft(A), draft("wrong"), draft(A, [7])], state(), [1, 1, 0, 0])

    def test_things_as_many_as_things_tells(self):
        ahead = in_turn("set 1.1 a\nset 2.1 b\nset 3.1 c\n", "swap 1.1 9.9\nclear 2.1\ncopy 4.1 3.1\nclear 7.7\n")
        self.assertEqual(run([*ahead, state(), things()])[-2][-1], 3)
        self.assertEqual(run([*ahead, state(), things()])[-1][1], 3)

    def test_full_house(self):
        names = [f"{entry}.{field}" for entry in range(1, 21) for field in range(1, 10)]
        texts = ["".join(f"set {name} x\n" for name in names[start:start + 12]) for start in range(0, 180, 12)]
        ahead = [*map(draft, texts), joinall(), *[draft(f"need {name} x\n") for name in names[:25]], joinall()]
        self.assertEqual(last([*ahead, state()]), [0, 40, 0, 40, 180])
        self.assert_asked([*[draft(A)] * 40, accept(40), refuse(1)], state(), [40, 38, 1, 1])
