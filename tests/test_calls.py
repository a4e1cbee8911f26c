"""The calls 0 to 8: ordinary cases, each refusal told with them, and the order among refusals."""

from tests.helper import (
    CallTest, accept, acceptall, check, draft, joinall, last, look, refuse, run, signs, takeall, takeback, things,
)

A = "set 1.1 a\n"
B = "set 1.1 b\n"
FAR = "set 9.9 z\n"


class DraftTest(CallTest):
    def test_numbers_rise_from_1(self):
        self.assertEqual(run([draft(A), draft(B, editor=5), draft(A, [1, 2])]), [[0, 1], [0, 2], [0, 3]])

    def test_a_refused_draft_takes_no_number(self):
        self.assertEqual(run([draft(A), draft("x"), draft(A, [9]), draft(B)]), [[0, 1], [-3], [-5], [0, 2]])

    def test_stands_on_one_that_is_not_there(self):
        self.assert_refused([], draft(A, [1]), -5)
        self.assert_refused([draft(A)], draft(A, [2]), -5)
        self.assert_refused([draft(A)], draft(A, [1, 40]), -5)

    def test_stands_on_one_that_is_no_draft(self):
        self.assert_refused([draft(A), draft(FAR), accept(1)], draft(A, [1]), -5)
        self.assert_refused([draft(A), draft(FAR), refuse(1)], draft(A, [2, 1]), -5)
        self.assert_refused([draft(A), draft(FAR), accept(1), takeback(1)], draft(A, [1, 2]), -5)

    def test_wrong_text(self):
        self.assert_refused([draft(A)], draft(""), -3)
        self.assert_refused([draft(A)], draft("set 1.1\n", [1]), -3)

    def test_missing_draft_ahead_of_wrong_text(self):
        self.assert_refused([draft(A)], draft("", [2]), -5)

    def test_missing_draft_ahead_of_forty_changes(self):
        full = [draft(A)] * 40 + [refuse(7)]
        self.assert_refused(full, draft("", [7]), -5)
        self.assert_refused(full, draft(A, [7]), -5)

    def test_forty_changes_ahead_of_wrong_text(self):
        full = [draft(A)] * 40
        self.assert_refused(full, draft(""), -4)
        self.assert_refused(full, draft(A, [40]), -4)

    def test_all_conditions_count_towards_forty(self):
        full = [draft(A)] * 40 + [accept(1), takeback(1), refuse(2), accept(3)]
        self.assert_refused(full, draft(A), -4)


class CheckTest(CallTest):
    def test_check(self):
        self.assertEqual(last([check(A + B)]), [0, 0, 2])
        self.assertEqual(last([check(A + "b\n")]), [0, 1, 2])

    def test_check_drafts_nothing(self):
        self.assertEqual(run([check(A), draft(A), check("x"), draft(B)]), [[0, 0, 1], [0, 1], [0, 1, 1], [0, 2]])

    def test_check_in_a_full_house(self):
        self.assertEqual(last([*[draft(A)] * 40, check(A)]), [0, 0, 1])


class AcceptTest(CallTest):
    def test_accept(self):
        calls = [draft(A), draft(FAR), accept(2), accept(1), things()]
        self.assert_answers(calls, [[0, 1], [0, 2], [0, 2, 1, 1, *signs("a"), 9, 9, *signs("z")]])

    def test_the_row_is_in_the_order_of_accepting(self):
        ahead = [draft(A), draft(FAR), accept(2), look(1), accept(1), draft("copy 2.1 1.1\ncopy 2.2 9.9\n"), accept(3)]
        self.assertEqual(last([*ahead, takeall(2)]), [0, 2, 2, 3])
        self.assertEqual(last([*ahead, takeall(1)]), [0, 2, 1, 3])

    def test_no_draft(self):
        self.assert_refused([draft(A), accept(1)], accept(1), -6)
        self.assert_refused([draft(A), refuse(1)], accept(1), -6)
        self.assert_refused([draft(A), accept(1), takeback(1)], accept(1), -6)

    def test_clash(self):
        self.assert_refused([draft(A), draft(B), accept(2)], accept(1), -7)

    def test_lack(self):
        self.assert_refused([draft(A), draft("clear 1.1\n", [1])], accept(2), -8)

    def test_clash_ahead_of_lack(self):
        ahead = [draft(A), draft("copy 2.1 1.1\n", [1]), draft("set 2.1 x\n"), accept(3)]
        self.assert_refused(ahead, accept(2), -7)

    def test_no_draft_ahead_of_clash(self):
        ahead = [draft(A), draft(B), accept(2), refuse(1)]
        self.assert_refused(ahead, accept(1), -6)


class AcceptallTest(CallTest):
    def test_alone(self):
        self.assertEqual(last([draft(A), acceptall(1)]), [0, 1, 1])

    def test_those_in_force_are_not_told(self):
        calls = [draft(A), accept(1), draft("join 1.2 1.1\n"), acceptall(2), things()]
        self.assert_answers(calls, [[0, 1, 2], [0, 2, 1, 1, *signs("a"), 1, 2, *signs("a")]])

    def test_through_several_steps(self):
        ahead = [
            draft("set 1.1 a\n"), draft("copy 1.2 1.1\n", [1]), draft("set 5.5 e\n"),
            draft("copy 1.3 1.2\n", [2]), draft("copy 1.4 1.3\njoin 1.4 5.5\n", [4, 3]),
        ]
        self.assert_answers([*ahead, acceptall(5), things()], [[0, 5, 1, 2, 3, 4, 5], [
            0, 5, 1, 1, *signs("a"), 1, 2, *signs("a"), 1, 3, *signs("a"), 1, 4, *signs("ae"), 5, 5, *signs("e")]])
        self.assertEqual(last([*ahead, acceptall(4)]), [0, 3, 1, 2, 4])
        self.assertEqual(last([*ahead, acceptall(2), acceptall(5)]), [0, 3, 3, 4, 5])

    def test_one_that_does_not_feed_it_is_left(self):
        ahead = [draft(A), draft(FAR), draft("copy 2.1 1.1\n", [2, 1])]
        self.assertEqual(last([*ahead, acceptall(3)]), [0, 2, 1, 3])

    def test_two_ways_to_the_same_one(self):
        ahead = [draft(A), draft("copy 2.1 1.1\n", [1]), draft("copy 3.1 1.1\n", [1])]
        ahead += [draft("copy 4.1 2.1\njoin 4.1 3.1\n", [3, 2])]
        self.assertEqual(last([*ahead, acceptall(4)]), [0, 4, 1, 2, 3, 4])

    def test_no_draft(self):
        self.assert_refused([draft(A), accept(1)], acceptall(1), -6)
        self.assert_refused([draft(A), refuse(1)], acceptall(1), -6)
        self.assert_refused([draft(A), accept(1), takeback(1)], acceptall(1), -6)

    def test_it_clashes_itself(self):
        self.assert_refused([draft(A), draft(B), accept(1)], acceptall(2), -7)

    def test_one_lacking_is_no_draft(self):
        ahead = [draft(A), draft("copy 2.1 1.1\n", [1]), draft("copy 3.1 2.1\n", [2])]
        self.assert_refused([*ahead, refuse(1)], acceptall(3), -7)
        self.assert_refused([*ahead, accept(1), takeback(1)], acceptall(2), -7)
        self.assert_refused([*ahead, accept(1), takeback(1)], acceptall(3), -7)

    def test_one_that_was_seen_is_taken_back(self):
        ahead = [draft(A), accept(1), draft("copy 2.1 1.1\n"), takeback(1)]
        self.assert_refused(ahead, acceptall(2), -7)

    def test_refused_in_the_middle_accepts_nothing(self):
        # 1 could be accepted, 2 clashes with 4 in force.
        ahead = [draft(A), draft("copy 2.1 1.1\n", [1]), draft("copy 3.1 2.1\n", [2]), draft("set 2.1 x\n"), accept(4)]
        self.assert_refused(ahead, acceptall(3), -7)
        self.assertEqual(last([*ahead, acceptall(3), accept(1)]), [0, 2])

    def test_those_lacking_clash_among_themselves(self):
        # 2 doesn't know 1, and both write 1.1: whichever comes second clashes.
        ahead = [draft(A), draft(B), draft("copy 2.1 1.1\n", [1, 2])]
        self.assert_refused(ahead, acceptall(3), -7)
        ahead = [draft(A), draft(B, [1]), draft("copy 2.1 1.1\n", [1, 2])]
        self.assertEqual(last([*ahead, acceptall(3)]), [0, 3, 1, 2, 3])

    def test_it_clashes_with_one_that_those_lacking_bring(self):
        # 3 stands on 2 alone; 2 lacks 1, which 3 meets and doesn't know.
        ahead = [draft("set 1.1 a\nset 1.2 b\n"), draft("copy 2.1 1.1\n", [1]), draft("copy 3.1 2.1\nclear 1.2\n", [2])]
        self.assert_refused(ahead, acceptall(3), -7)


class RefuseTest(CallTest):
    def test_refuse(self):
        calls = [draft(A), draft(FAR), refuse(1), joinall(), things()]
        self.assert_answers(calls, [[0], [0, 1, 2], [0, 1, 9, 9, *signs("z")]])

    def test_no_draft(self):
        self.assert_refused([draft(A), accept(1)], refuse(1), -6)
        self.assert_refused([draft(A), refuse(1)], refuse(1), -6)
        self.assert_refused([draft(A), accept(1), takeback(1)], refuse(1), -6)

    def test_a_refused_change_is_neither_draft_nor_in_force(self):
        for call, refusal in ((accept, -6), (acceptall, -6), (refuse, -6), (look, -6), (takeback, -9), (takeall, -9)):
            self.assert_refused([draft(A), refuse(1)], call(1), refusal)


class LookTest(CallTest):
    def test_look(self):
        ahead = [draft(A), draft(B), draft(FAR), accept(1), accept(3)]
        self.assert_answers([*ahead, accept(2), look(2), accept(2), things()], [
            [-7], [0, 2], [0, 3], [0, 2, 1, 1, *signs("b"), 9, 9, *signs("z")]])

    def test_look_with_none_in_force(self):
        self.assertEqual(last([draft(A), look(1)]), [0, 0])

    def test_no_draft(self):
        self.assert_refused([draft(A), accept(1)], look(1), -6)
        self.assert_refused([draft(A), refuse(1)], look(1), -6)
        self.assert_refused([draft(A), accept(1), takeback(1)], look(1), -6)


class TakebackTest(CallTest):
    def test_takeback(self):
        calls = [draft(A), accept(1), draft(FAR), accept(2), takeback(1), things(), accept(1), takeback(1)]
        self.assert_answers(calls, [[0], [0, 1, 9, 9, *signs("z")], [-6], [-9]])

    def test_not_in_force(self):
        self.assert_refused([draft(A)], takeback(1), -9)
        self.assert_refused([draft(A), refuse(1)], takeback(1), -9)
        self.assert_refused([draft(A), accept(1), takeback(1)], takeback(1), -9)

    def test_others_fall(self):
        ahead = [draft(A), accept(1), draft("copy 2.1 1.1\n"), accept(2)]
        self.assert_refused(ahead, takeback(1), -10)
        self.assertEqual(last([*ahead, takeback(2)]), [0])
        self.assertEqual(last([*ahead, takeback(2), takeback(1)]), [0])

    def test_how_many_are_in_force_behind_it(self):
        calls = [draft(A), accept(1), draft(FAR), takeback(1), accept(2), draft(A), accept(3)]
        self.assert_answers(calls, [[0], [0, 1], [0, 3], [0, 2]])


class TakeallTest(CallTest):
    def test_takeall(self):
        ahead = [draft(A), accept(1), draft("copy 2.1 1.1\n"), accept(2), draft(FAR), accept(3)]
        self.assert_answers([*ahead, takeall(1), things()], [[0, 2, 1, 2], [0, 1, 9, 9, *signs("z")]])
        self.assert_answers([*ahead, takeall(3)], [[0, 1, 3]])
        self.assert_answers([*ahead, takeall(2), takeall(1)], [[0, 1, 2], [0, 1, 1]])

    def test_those_taken_back(self):
        ahead = [draft(A), accept(1), draft("copy 2.1 1.1\n"), accept(2), takeall(1)]
        for number in (1, 2):
            for call, refusal in ((accept, -6), (look, -6), (takeback, -9), (takeall, -9)):
                self.assert_refused(ahead, call(number), refusal)

    def test_not_in_force(self):
        self.assert_refused([draft(A)], takeall(1), -9)
        self.assert_refused([draft(A), refuse(1)], takeall(1), -9)
        self.assert_refused([draft(A), accept(1), takeall(1)], takeall(1), -9)


class JoinallTest(CallTest):
    def test_new_house(self):
        self.assertEqual(run([joinall(), things()]), [[0, 0], [0, 0]])

    def test_by_rising_numbers(self):
        # 1 and 2 meet: 1 comes first, and 2 clashes with it then.
        calls = [draft(A), draft(B), draft(FAR), joinall(), things(), joinall()]
        self.assert_answers(calls, [[0, 2, 1, 3], [0, 2, 1, 1, *signs("a"), 9, 9, *signs("z")], [0, 0]])

    def test_one_that_stands_on_another_follows_it(self):
        ahead = [draft(A), draft("copy 2.1 1.1\n", [1]), draft("copy 3.1 2.1\n", [2]), draft(B)]
        self.assertEqual(last([*ahead, joinall()]), [0, 3, 1, 2, 3])
        self.assertEqual(last([*ahead, refuse(2), joinall()]), [0, 1, 1])
        self.assertEqual(last([*ahead, refuse(1), joinall()]), [0, 1, 4])

    def test_one_that_lacks_another_for_good_is_passed_over(self):
        # 1 was looked at while 3 was in force, which feeds it and is taken back then.
        ahead = [draft(A), draft(FAR), accept(2), draft("join 1.1 9.9\n"), accept(3), look(1), takeall(3)]
        self.assertEqual(last([*ahead, joinall()]), [0, 0])
        self.assertEqual(last([*ahead, look(1), joinall()]), [0, 1, 1])

    def test_those_that_are_no_drafts_stay(self):
        ahead = [draft(A), draft(FAR), draft("set 2.2 q\n"), draft("set 3.3 r\n")]
        ahead += [accept(1), refuse(2), accept(3), takeback(3)]
        self.assertEqual(last([*ahead, joinall()]), [0, 1, 4])
        self.assertEqual(last([*ahead, joinall(), accept(2)]), [-6])
