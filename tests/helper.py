"""Calls written as lists of numbers, and the answers taken apart again."""

import unittest

from draftjoin.house import answers


def row(numbers):
    return [len(numbers), *numbers]


def text_row(text):
    return row([ord(sign) for sign in text] if isinstance(text, str) else list(text))


def draft(text, stands=(), editor=1):
    return [0, editor, *row(list(stands)), *text_row(text)]


def check(text):
    return [1, *text_row(text)]


def accept(change):
    return [2, change]


def acceptall(change):
    return [3, change]


def refuse(change):
    return [4, change]


def look(change):
    return [5, change]


def takeback(change):
    return [6, change]


def takeall(change):
    return [7, change]


def joinall():
    return [8]


def value(entry, field):
    return [9, entry, field]


def things():
    return [10]


def would(number):
    return [11, number]


def clashes(number):
    return [12, number]


def needs(number):
    return [13, number]


def falls(number):
    return [14, number]


def meet(first, second):
    return [15, first, second]


def change(number):
    return [16, number]


def writer(entry, field):
    return [17, entry, field]


def order(numbers):
    return [18, *row(list(numbers))]


def force():
    return [19]


def state():
    return [20]


def in_turn(*texts):
    """Each drafted and accepted behind those ahead of it."""
    return [call for number, text in enumerate(texts, start=1) for call in (draft(text), accept(number))]


def signs(text):
    """A value as it stands in an answer, behind how many signs it has."""
    return [len(text), *text.encode()]


def taken_apart(given):
    parts = []
    place = 0
    while place < len(given):
        end = place + 1 + given[place]
        parts.append(given[place + 1:end])
        place = end
    if place != len(given):
        raise AssertionError("the last answer is shorter than told")
    return parts


def run(calls):
    """The answer of each call, as a list of its numbers."""
    return taken_apart(answers([number for call in calls for number in call]))


def last(calls):
    return run(calls)[-1]


def shown(answer):
    """The answer of things, as a dict from (entry, field) to the value."""
    found = {}
    place = 2
    while place < len(answer):
        entry, field, length = answer[place:place + 3]
        found[entry, field] = "".join(map(chr, answer[place + 3:place + 3 + length]))
        place += 3 + length
    if answer[:2] != [0, len(found)] or list(found) != sorted(found) or "" in found.values():
        raise AssertionError(f"no answer of things: {answer}")
    return found


def views(how_many):
    """Rows of calls that tell what a house keeps; none is so long that a list of calls gets more than 200."""
    numbers = range(1, how_many + 1)
    return [[force(), state(), things(), *map(call, numbers)] for call in (change, needs, clashes, would, falls)]


def probes(how_many):
    """Rows of calls that tell houses apart which differ in any change, in the row in force, or in a value."""
    numbers = range(1, how_many + 1)
    new = [draft("swap 1.1 2.1\njoin 3.1 1.1\n"), accept(how_many + 1), things()]
    return [
        *[[*view, *new] for view in views(how_many)],
        [call for number in numbers for call in (accept(number), things())] + new,
        [call for number in reversed(numbers) for call in (acceptall(number), things())] + new,
        [call for number in numbers for call in (takeback(number), things())] + new,
        [call for number in numbers for call in (takeall(number), things())] + new,
        [call for number in numbers for call in (look(number), accept(number), things())] + new,
        [joinall(), things(), *new, joinall()],
    ]


class CallTest(unittest.TestCase):
    def assert_answers(self, calls, expected):
        """Of the last calls, as many as answers are told."""
        self.assertEqual(run(calls)[-len(expected):], expected)

    def assert_unchanged(self, ahead, call):
        """Whatever comes behind the call is as if it hadn't been called."""
        for probe in probes(sum(1 for one in ahead if one[0] == 0)):
            without = run([*ahead, *probe])[len(ahead):]
            behind = run([*ahead, call, *probe])[len(ahead) + 1:]
            self.assertEqual(behind, without)

    def assert_refused(self, ahead, call, refusal):
        self.assertEqual(last([*ahead, call]), [refusal])
        self.assert_unchanged(ahead, call)

    def assert_asked(self, ahead, call, expected):
        self.assertEqual(last([*ahead, call]), [0, *expected])
        self.assert_unchanged(ahead, call)
