"""What feeds and meets, what a change knows, clashes with, needs and lacks, and what falls with another."""

from tests.helper import CallTest, accept, draft, joinall, last, look, refuse, run, takeall, takeback

# Each act by the things 1.1 and 1.2: what it reads, what it writes.
ACTS = {
    "set 1.1 a\n": ("", "1"),
    "clear 1.1\n": ("", "1"),
    "copy 1.1 1.2\n": ("2", "1"),
    "join 1.1 1.2\n": ("12", "1"),
    "swap 1.1 1.2\n": ("12", "12"),
    "need 1.1 a\n": ("1", ""),
    "empty 1.1\n": ("1", ""),
    "set 1.2 a\n": ("", "2"),
    "clear 1.2\n": ("", "2"),
    "copy 1.2 1.1\n": ("1", "2"),
    "join 1.2 1.1\n": ("12", "2"),
    "swap 1.2 1.1\n": ("12", "12"),
    "need 1.2 a\n": ("2", ""),
    "empty 1.2\n": ("2", ""),
    "copy 1.1 3.1\n": ("3", "1"),
    "copy 3.1 1.1\n": ("1", "3"),
    "join 3.1 1.2\n": ("32", "3"),
    "swap 3.1 1.1\n": ("31", "31"),
}


def feeds(giver, taker):
    return bool(set(ACTS[giver][1]) & set("".join(ACTS[taker])))


class MeetTest(CallTest):
    def test_clash_of_each_act_with_each(self):
        for first in ACTS:
            for second in ACTS:
                met = feeds(first, second) or feeds(second, first)
                with self.subTest(first=first, second=second):
                    answer = last([draft(first), draft(second), accept(1), accept(2)])
                    self.assertEqual(answer, [-7] if met else [0, 2])

    def test_lack_of_each_act_for_each(self):
        for first in ACTS:
            for second in ACTS:
                with self.subTest(first=first, second=second):
                    answer = last([draft(first), draft(second, [1]), accept(2)])
                    self.assertEqual(answer, [-8] if feeds(first, second) else [0, 1])

    def test_fall_of_each_act_with_each(self):
        for first in ACTS:
            for second in ACTS:
                ahead = [draft(first), accept(1), draft(second), accept(2)]
                fed = feeds(first, second)
                with self.subTest(first=first, second=second):
                    self.assertEqual(last([*ahead, takeback(1)]), [-10] if fed else [0])
                    self.assertEqual(last([*ahead, takeall(1)]), [0, 2, 1, 2] if fed else [0, 1, 1])

    def test_all_acts_of_a_change_count(self):
        first = "set 5.1 a\nneed 5.2 b\nset 5.3 c\n"
        for second, refusal in (("need 5.1 a\n", -7), ("need 5.2 b\n", 0), ("set 5.2 b\n", -7), ("empty 5.3\n", -7)):
            answer = last([draft(first), draft("clear 6.1\n" + second + "clear 6.2\n"), accept(1), accept(2)])
            self.assertEqual(answer, [refusal] if refusal < 0 else [0, 2])

    def test_a_failing_change_reads_and_writes_all_the_same(self):
        failing = "need 9.9 never\nset 1.1 a\ncopy 1.2 1.3\n"
        for second in ("need 1.1 a\n", "set 1.2 b\n", "set 1.3 c\n"):
            self.assertEqual(last([draft(failing), draft(second), accept(1), accept(2)]), [-7])
        self.assertEqual(last([draft(failing), accept(1), draft("clear 1.1\n"), accept(2), takeback(1)]), [-10])

    def test_other_fields_and_entries_do_not_meet(self):
        for second in ("set 1.2 a\n", "set 2.1 a\n", "set 11.1 a\n", "set 1.9 a\n", "set 10.1 a\n"):
            self.assertEqual(last([draft("set 1.1 a\n"), draft(second), accept(1), accept(2)]), [0, 2])


class KnowTest(CallTest):
    def test_in_force_when_drafted_is_known(self):
        self.assertEqual(last([draft("set 1.1 a\n"), accept(1), draft("clear 1.1\n"), accept(2)]), [0, 2])

    def test_a_draft_that_is_accepted_later_is_not_known(self):
        self.assertEqual(last([draft("set 1.1 a\n"), draft("clear 1.1\n"), accept(1), accept(2)]), [-7])

    def test_one_stood_on_is_known(self):
        ahead = [draft("set 1.1 a\n"), draft("clear 1.1\n", [1])]
        self.assertEqual(run([*ahead, accept(2), accept(1), accept(2)])[2:], [[-8], [0, 1], [0, 2]])

    def test_one_stood_on_knows_nothing_of_what_stands_on_it(self):
        # 2 only reads what 1 doesn't write, so it lacks nothing; 1 then meets it unknown.
        ahead = [draft("copy 2.1 1.1\n"), draft("set 1.1 a\n", [1]), accept(2)]
        self.assertEqual(last([*ahead, accept(1)]), [-7])

    def test_what_is_known_is_not_known_further(self):
        # 3 stands on 2, and 2 on 1: 3 doesn't know 1, which it meets.
        ahead = [draft("set 1.1 a\n"), draft("copy 2.1 1.1\n", [1]), draft("copy 3.1 2.1\nclear 1.1\n", [2])]
        self.assertEqual(last([*ahead, accept(1), accept(2), accept(3)]), [-7])

    def test_look_makes_known_what_is_in_force(self):
        ahead = [draft("set 1.1 a\n"), draft("clear 1.1\n"), accept(1)]
        self.assertEqual(run([*ahead, accept(2), look(2), accept(2)])[3:], [[-7], [0, 1], [0, 2]])

    def test_look_does_not_last_for_those_accepted_later(self):
        ahead = [draft("set 1.1 a\n"), draft("clear 1.1\n"), draft("need 1.1 a\n"), accept(3), look(2), accept(2)]
        self.assertEqual(last([*ahead, accept(1)]), [-7])
        ahead = [draft("set 1.1 a\n"), draft("clear 1.1\n"), look(2), accept(1)]
        self.assertEqual(last([*ahead, accept(2)]), [-7])

    def test_look_stands_on_none(self):
        ahead = [draft("set 1.1 a\n"), draft("clear 1.1\n", [1]), look(2)]
        self.assertEqual(last([*ahead, accept(2)]), [0, 1])
        self.assertEqual(last([*ahead, accept(1), accept(2)]), [-7])
        self.assertEqual(last([*ahead, accept(1), look(2), accept(2)]), [0, 2])

    def test_look_forgets_what_was_in_force(self):
        ahead = [draft("set 1.1 a\n"), accept(1), draft("clear 1.1\n"), takeback(1)]
        self.assertEqual(run([*ahead, accept(2), look(2), accept(2)])[4:], [[-8], [0, 0], [0, 1]])


class LackTest(CallTest):
    def test_one_that_was_refused(self):
        ahead = [draft("set 1.1 a\n"), draft("copy 2.1 1.1\n", [1]), refuse(1)]
        self.assertEqual(last([*ahead, accept(2)]), [-8])
        self.assertEqual(last([*ahead, joinall()]), [0, 0])
        self.assertEqual(last([*ahead, look(2), accept(2)]), [0, 1])

    def test_one_that_was_stood_on_and_taken_back(self):
        ahead = [draft("set 1.1 a\n"), draft("copy 2.1 1.1\n", [1]), accept(1), takeback(1)]
        self.assertEqual(last([*ahead, accept(2)]), [-8])

    def test_one_that_was_seen_and_taken_back(self):
        ahead = [draft("set 1.1 a\n"), accept(1), draft("copy 2.1 1.1\n"), takeback(1)]
        self.assertEqual(last([*ahead, accept(2)]), [-8])

    def test_one_that_does_not_feed_it_is_not_needed(self):
        for first in ("set 3.1 a\n", "copy 3.1 2.1\n", "need 2.1 a\n"):
            ahead = [draft(first), draft("copy 2.1 1.1\n", [1]), refuse(1)]
            self.assertEqual(last([*ahead, accept(2)]), [0, 1])

    def test_one_of_several(self):
        ahead = [draft("set 1.1 a\n"), draft("set 1.2 b\n"), draft("copy 2.1 1.1\njoin 2.1 1.2\n", [2, 1])]
        self.assertEqual(last([*ahead, accept(1), accept(3)]), [-8])
        self.assertEqual(last([*ahead, accept(2), accept(3)]), [-8])
        self.assertEqual(last([*ahead, accept(2), accept(1), accept(3)]), [0, 3])

    def test_what_is_taken_back_no_longer_clashes(self):
        ahead = [draft("set 1.1 a\n"), draft("clear 1.1\n"), accept(1)]
        self.assertEqual(run([*ahead, accept(2), takeback(1), accept(2)])[3:], [[-7], [0], [0, 1]])

    def test_a_refused_draft_does_not_clash(self):
        self.assertEqual(last([draft("set 1.1 a\n"), draft("clear 1.1\n"), refuse(1), accept(2)]), [0, 1])


class FallTest(CallTest):
    def accepted(self, *texts):
        calls = []
        for number, text in enumerate(texts, start=1):
            calls += [draft(text), accept(number)]
        return calls

    def test_along_the_row(self):
        ahead = self.accepted("set 1.1 a\n", "copy 2.1 1.1\n", "set 9.1 z\n", "copy 3.1 2.1\n", "copy 8.1 9.1\n")
        self.assertEqual(last([*ahead, takeall(1)]), [0, 3, 1, 2, 4])
        self.assertEqual(last([*ahead, takeall(2)]), [0, 2, 2, 4])
        self.assertEqual(last([*ahead, takeall(3)]), [0, 2, 3, 5])
        self.assertEqual(last([*ahead, takeall(4)]), [0, 1, 4])
        self.assertEqual(last([*ahead, takeall(2), takeall(1)]), [0, 1, 1])

    def test_none_ahead_of_it_falls(self):
        ahead = self.accepted("set 1.1 a\n", "set 1.1 b\n", "set 1.1 c\n")
        self.assertEqual(last([*ahead, takeall(2)]), [0, 2, 2, 3])
        self.assertEqual(last([*ahead, takeall(3)]), [0, 1, 3])

    def test_in_the_order_of_the_row_not_of_the_numbers(self):
        ahead = [draft("copy 3.1 1.1\n"), draft("copy 2.1 1.1\n"), draft("set 1.1 a\n"), accept(3)]
        ahead += [look(2), accept(2), look(1), accept(1)]
        self.assertEqual(last([*ahead, takeall(3)]), [0, 3, 3, 2, 1])

    def test_one_fed_only_by_one_that_reads_it_stays(self):
        # 2 reads what 1 writes, 3 reads what 2 only reads.
        ahead = self.accepted("set 1.1 a\n", "need 2.1 b\nset 5.1 q\n", "copy 3.1 2.1\n")
        self.assertEqual(last([*ahead, takeall(2)]), [0, 1, 2])

    def test_one_that_is_read_ahead_of_being_written_stays(self):
        ahead = self.accepted("copy 2.1 1.1\n", "set 1.1 a\n")
        self.assertEqual(last([*ahead, takeback(1)]), [0])
        self.assertEqual(last([*ahead, takeback(2)]), [0])

    def test_a_change_that_writes_the_same_falls_unless_it_is_gone(self):
        ahead = self.accepted("set 1.1 a\n", "set 1.1 b\n")
        self.assertEqual(last([*ahead, takeback(1)]), [-10])
        self.assertEqual(last([*ahead, takeback(2), takeback(1)]), [0])

    def test_drafts_do_not_fall(self):
        ahead = [draft("set 1.1 a\n"), accept(1), draft("copy 2.1 1.1\n")]
        self.assertEqual(run([*ahead, takeall(1), look(2), accept(2)])[3:], [[0, 1, 1], [0, 0], [0, 1]])
