"""Many changes, many calls, long lists; what is handed in, and what is kept."""

import unittest

from draftjoin.house import answers
from tests.helper import CallTest, accept, check, draft, joinall, last, run, taken_apart, takeall, things, value


class LimitTest(CallTest):
    def test_forty_changes(self):
        full = [draft("set 1.1 a\n")] * 40
        self.assertEqual(run(full), [[0, number] for number in range(1, 41)])
        self.assert_refused(full, draft("set 1.1 a\n"), -4)
        self.assertEqual(run([*full, accept(40), draft("clear 1.1\n"), accept(1)])[40:], [[0, 1], [-4], [-7]])

    def test_forty_in_force(self):
        calls = []
        for number in range(1, 41):
            calls += [draft(f"set 1.1 v{number}\n"), accept(number)]
        given = run([*calls, value(1, 1), takeall(2), value(1, 1), takeall(1), things()])
        self.assertEqual(given[79:], [
            [0, 40], [0, *b"v40"], [0, 39, *range(2, 41)], [0, *b"v1"], [0, 1, 1], [0, 0]])

    def test_forty_in_a_chain(self):
        calls = [draft("set 1.1 a\n")]
        for number in range(2, 41):
            calls.append(draft(f"copy {(number + 8) // 9}.{(number - 1) % 9 + 1} "
                               f"{(number + 7) // 9}.{(number - 2) % 9 + 1}\n", [number - 1]))
        self.assertEqual(last([*calls, [3, 40]]), [0, 40, *range(1, 41)])
        self.assertEqual(last([*calls, joinall()]), [0, 40, *range(1, 41)])
        self.assertEqual(last([*calls, joinall(), value(5, 4)]), [0, *b"a"])
        self.assertEqual(last([*calls, joinall(), takeall(1)]), [0, 40, *range(1, 41)])

    def test_all_things_filled(self):
        calls = []
        names = [(entry, field) for entry in range(1, 21) for field in range(1, 10)]
        expected = [0, 180]
        for number in range(1, 16):
            text = ""
            for entry, field in names[number * 12 - 12:number * 12]:
                text += f"set {entry}.{field} x{entry}y{field}\n"
            calls.append(draft(text))
        for entry, field in names:
            sign = f"x{entry}y{field}".encode()
            expected += [entry, field, len(sign), *sign]
        self.assertEqual(last([*calls, joinall(), things()]), expected)

    def test_two_hundred_calls(self):
        calls = []
        for number in range(1, 41):
            calls += [draft(f"join 1.1 1.2\nset 1.2 {number}\n"), accept(number), things(), value(1, 2), joinall()]
        given = run(calls)
        self.assertEqual(len(given), 200)
        for number in range(1, 41):
            self.assertEqual(given[number * 5 - 5], [0, number])
            self.assertEqual(given[number * 5 - 4], [0, number])
            self.assertEqual(given[number * 5 - 2], [0, *str(number).encode()])
            self.assertEqual(given[number * 5 - 1], [0, 0])
        self.assertEqual(given[-3], [0, 2, 1, 1, 20, *b"12345678910111213141", 1, 2, 2, *b"40"])

    def test_two_hundred_refused_calls(self):
        self.assertEqual(run([accept(0)] * 200), [[-1]] * 200)

    def test_longest_list(self):
        text = "set 20.9 abcdefghijklmnopqrst\n" * 12
        calls = [draft(text, editor=5)] * 40 + [check([7] * 1000), check([0] * 416)]
        self.assertLessEqual(sum(map(len, calls)), 16000)
        self.assertEqual(run(calls), [[0, number] for number in range(1, 41)] + [[-1], [0, 1, 1]])


class InterfaceTest(unittest.TestCase):
    CALLS = [
        *draft("set 1.1 a\nset 1.2 b\n"), *draft("swap 1.1 1.2\n", [1]), *check("x"), *accept(2), *accept(1),
        *accept(2), *things(), *draft("clear 1.1\n", [9]), *takeall(1), *joinall(), *value(1, 1), *draft([300] * 700),
    ]
    EXPECTED = [
        2, 0, 1, 2, 0, 2, 3, 0, 1, 1, 1, -8, 2, 0, 1, 2, 0, 2, 10, 0, 2, 1, 1, 1, 98, 1, 2, 1, 97, 1, -5,
        4, 0, 2, 1, 2, 2, 0, 0, 1, 0, 1, -1,
    ]

    def test_the_one_list_given_back(self):
        given = answers(list(self.CALLS))
        self.assertEqual(given, self.EXPECTED)
        self.assertIs(type(given), list)
        for number in given:
            self.assertIs(type(number), int)
        self.assertEqual(len(taken_apart(given)), 12)

    def test_what_is_handed_in_stays_as_it_was(self):
        handed = list(self.CALLS)
        answers(handed)
        self.assertEqual(handed, self.CALLS)

    def test_what_is_handed_in_is_not_changed_for_a_while_either(self):
        class Fixed(list):
            def forbidden(self, *told, **named):
                raise AssertionError("the list that was handed in is changed")

            __setitem__ = __delitem__ = __iadd__ = __imul__ = forbidden
            append = extend = insert = pop = remove = clear = sort = reverse = forbidden

        self.assertEqual(answers(Fixed(self.CALLS)), self.EXPECTED)

    def test_nothing_is_kept(self):
        first = answers(list(self.CALLS))
        answers(draft("set 7.7 q\n") + accept(1))
        self.assertEqual(answers(list(self.CALLS)), first)
        self.assertEqual(answers(things()), [2, 0, 0])

    def test_what_is_given_back_is_new_each_time(self):
        first = answers(list(self.CALLS))
        first.clear()
        self.assertEqual(answers(list(self.CALLS)), self.EXPECTED)
