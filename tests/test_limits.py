"""Many changes, many calls, long lists; what is handed in, and what is kept."""

import unittest

from draftjoin.house import answers
from tests.helper import (
    CallTest, accept, acceptall, change, check, clashes, draft, falls, force, joinall, last, look, meet, needs, order,
    refuse, run, state, takeall, takeback, taken_apart, things, value, would, writer,
)


class LimitTest(CallTest):
    def test_forty_changes(self):
        full = [draft("set 1.1 a\n")] * 40
        self.assertEqual(run(full), [[0, number] for number in range(1, 41)])
        self.assert_refused(full, draft("set 1.1 a\n"), -4)
        self.assertEqual(run([*full, accept(40), draft("clear 1.1\n"), accept(1)])[40:], [[0, 1], [-4], [-7]])

    def test_forty_in_force(self):
        calls = []
        for number in range(1, 41):
            calls += [draft(f"set 1.1 v{number}\n"), accept(number)]
        given = run([*calls, value(1, 1), takeall(2), value(1, 1), takeall(1), things()])
        self.assertEqual(given[79:], [
            [0, 40], [0, *b"v40"], [0, 39, *range(2, 41)], [0, *b"v1"], [0, 1, 1], [0, 0]])

    def test_forty_in_a_chain(self):
        calls = [draft("set 1.1 a\n")]
        for number in range(2, 41):
            calls.append(draft(f"copy {(number + 8) // 9}.{(number - 1) % 9 + 1} "
                               f"{(number + 7) // 9}.{(number - 2) % 9 + 1}\n", [number - 1]))
        self.assertEqual(last([*calls, [3, 40]]), [0, 40, *range(1, 41)])
        self.assertEqual(last([*calls, joinall()]), [0, 40, *range(1, 41)])
        self.assertEqual(last([*calls, joinall(), value(5, 4)]), [0, *b"a"])
        self.assertEqual(last([*calls, joinall(), takeall(1)]), [0, 40, *range(1, 41)])

    def test_all_things_filled(self):
        calls = []
        names = [(entry, field) for entry in range(1, 21) for field in range(1, 10)]
        expected = [0, 180]
        for number in range(1, 16):
            text = ""
            for entry, field in names[number * 12 - 12:number * 12]:
                text += f"set {entry}.{field} x{entry}y{field}\n"
            calls.append(draft(text))
        for entry, field in names:
            sign = f"x{entry}y{field}".encode()
            expected += [entry, field, len(sign), *sign]
        self.assertEqual(last([*calls, joinall(), things()]), expected)

    def test_two_hundred_calls(self):
        calls = []
        for number in range(1, 41):
            calls += [draft(f"join 1.1 1.2\nset 1.2 {number}\n"), accept(number), things(), value(1, 2), joinall()]
        given = run(calls)
        self.assertEqual(len(given), 200)
        for number in range(1, 41):
            self.assertEqual(given[number * 5 - 5], [0, number])
            self.assertEqual(given[number * 5 - 4], [0, number])
            self.assertEqual(given[number * 5 - 2], [0, *str(number).encode()])
            self.assertEqual(given[number * 5 - 1], [0, 0])
        self.assertEqual(given[-3], [0, 2, 1, 1, 20, *b"12345678910111213141", 1, 2, 2, *b"40"])

    def test_two_hundred_calls_that_ask(self):
        texts = [f"set 1.1 v{number}\nswap 1.1 {number % 20 + 1}.2\n" for number in range(1, 31)]
        calls = [call for number, text in enumerate(texts, start=1) for call in (draft(text), accept(number))]
        everyone = range(1, 31)
        calls += [*map(falls, everyone), *map(needs, everyone), *map(change, everyone), *[order(everyone)] * 30]
        calls += [*[force()] * 10, *[state()] * 10]
        given = run(calls)
        self.assertEqual(len(given), 200)
        for number in everyone:
            self.assertEqual(given[59 + number], [0, 31 - number, *range(number, 31)])
            self.assertEqual(given[89 + number], [0, number - 1, *range(1, number), 0])
            self.assertEqual(given[119 + number], [0, 1, 1, number - 1, 0, *texts[number - 1].encode()])
        self.assertEqual(given[150:180], [[0, 0]] * 30)
        self.assertEqual(given[180:190], [[0, 30, *everyone]] * 10)
        self.assertEqual(given[190:], [[0, 30, 0, 30, 21]] * 10)

    def test_two_hundred_refused_calls(self):
        self.assertEqual(run([accept(0)] * 200), [[-1]] * 200)

    def test_longest_list(self):
        text = "set 20.9 abcdefghijklmnopqrst\n" * 12
        calls = [draft(text, editor=5)] * 40 + [check([7] * 1000), check([0] * 416)]
        self.assertLessEqual(sum(map(len, calls)), 16000)
        self.assertEqual(run(calls), [[0, number] for number in range(1, 41)] + [[-1], [0, 1, 1]])


class InterfaceTest(unittest.TestCase):
    CALLS = [
        *draft("set 1.1 a\nset 1.2 b\n"), *draft("swap 1.1 1.2\n", [1]), *check("x"), *accept(2), *accept(1),
        *accept(2), *things(), *draft("clear 1.1\n", [9]), *takeall(1), *joinall(), *value(1, 1), *draft([300] * 700),
    ]
    EXPECTED = [
        2, 0, 1, 2, 0, 2, 3, 0, 1, 1, 1, -8, 2, 0, 1, 2, 0, 2, 10, 0, 2, 1, 1, 1, 98, 1, 2, 1, 97, 1, -5,
        4, 0, 2, 1, 2, 2, 0, 0, 1, 0, 1, -1,
    ]

    def test_the_one_list_given_back(self):
        given = answers(list(self.CALLS))
        self.assertEqual(given, self.EXPECTED)
        self.assertIs(type(given), list)
        for number in given:
            self.assertIs(type(number), int)
        self.assertEqual(len(taken_apart(given)), 12)

    def test_what_is_handed_in_stays_as_it_was(self):
        handed = list(self.CALLS)
        answers(handed)
        self.assertEqual(handed, self.CALLS)

    def test_what_is_handed_in_is_not_changed_for_a_while_either(self):
        class Fixed(list):
            def forbidden(self, *told, **named):
                raise AssertionError("the list that was handed in is changed")

            __setitem__ = __delitem__ = __iadd__ = __imul__ = forbidden
            append = extend = insert = pop = remove = clear = sort = reverse = forbidden

        self.assertEqual(answers(Fixed(self.CALLS)), self.EXPECTED)
        self.assertEqual(answers(Fixed(self.flat())), answers(self.flat()))

    # Every call from 0 to 20, with its answer as it stands in the list that is given back.
    EVERY = [
        (draft("set 1.1 a\nset 2.1 b\n", editor=2), [2, 0, 1]),
        (draft("copy 3.1 1.1\n", [1], editor=4), [2, 0, 2]),
        (check("clear 1.1\n"), [3, 0, 0, 1]),
        (accept(2), [1, -8]),
        (acceptall(2), [4, 0, 2, 1, 2]),
        (draft("join 1.1 2.1\nclear 2.1\n"), [2, 0, 3]),
        (draft("empty 9.9\nset 1.1 q\n"), [2, 0, 4]),
        (would(3), [11, 0, 1, 2, 1, 1, 2, 97, 98, 2, 1, 0]),
        (accept(3), [2, 0, 3]),
        (clashes(4), [3, 0, 1, 3]),
        (needs(4), [4, 0, 1, 1, 0]),
        (look(4), [2, 0, 3]),
        (falls(1), [5, 0, 3, 1, 2, 3]),
        (meet(2, 1), [3, 0, 1, 0]),
        (change(2), [19, 0, 4, 1, 0, 1, 1, *b"copy 3.1 1.1\n"]),
        (change(4), [25, 0, 1, 0, 3, 0, *b"empty 9.9\nset 1.1 q\n"]),
        (writer(1, 1), [2, 0, 3]),
        (order([1, 3, 2]), [4, 0, 1, 3, 1]),
        (order([1, 3]), [1, -11]),
        (force(), [5, 0, 3, 1, 2, 3]),
        (state(), [5, 0, 4, 1, 3, 2]),
        (takeback(2), [1, 0]),
        (refuse(4), [1, 0]),
        (takeall(1), [4, 0, 2, 1, 3]),
        (joinall(), [2, 0, 0]),
        (value(1, 1), [1, 0]),
        (things(), [2, 0, 0]),
    ]

    def flat(self):
        return [number for call, answer in self.EVERY for number in call]

    def test_every_call(self):
        self.assertEqual({call[0] for call, answer in self.EVERY}, {*range(21)})
        handed = self.flat()
        given = answers(handed)
        self.assertEqual(given, [number for call, answer in self.EVERY for number in answer])
        self.assertEqual(handed, self.flat())
        for number in given:
            self.assertIs(type(number), int)
        answers(self.CALLS)
        self.assertEqual(answers(handed), given)

    def test_nothing_is_kept(self):
        first = answers(list(self.CALLS))
        answers(draft("set 7.7 q\n") + accept(1))
        self.assertEqual(answers(list(self.CALLS)), first)
        self.assertEqual(answers(things()), [2, 0, 0])

    def test_what_is_given_back_is_new_each_time(self):
        first = answers(list(self.CALLS))
        first.clear()
        self.assertEqual(answers(list(self.CALLS)), self.EXPECTED)
