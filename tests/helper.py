"""Calls written as lists of numbers, and the answers taken apart again."""

import unittest

from draftjoin.house import answers


def row(numbers):
    return [len(numbers), *numbers]


def text_row(text):
    return row([ord(sign) for sign in text] if isinstance(text, str) else list(text))


def draft(text, stands=(), editor=1):
    return [0, editor, *row(list(stands)), *text_row(text)]


def check(text):
    return [1, *text_row(text)]


def accept(change):
    return [2, change]


def acceptall(change):
    return [3, change]


def refuse(change):
    return [4, change]


def look(change):
    return [5, change]


def takeback(change):
    return [6, change]


def takeall(change):
    return [7, change]


def joinall():
    return [8]


def value(entry, field):
    return [9, entry, field]


def things():
    return [10]


def taken_apart(given):
    parts = []
    place = 0
    while place < len(given):
        end = place + 1 + given[place]
        parts.append(given[place + 1:end])
        place = end
    if place != len(given):
        raise AssertionError("the last answer is shorter than told")
    return parts


def run(calls):
    """The answer of each call, as a list of its numbers."""
    return taken_apart(answers([number for call in calls for number in call]))


def last(calls):
    return run(calls)[-1]


def shown(answer):
    """The answer of things, as a dict from (entry, field) to the value."""
    found = {}
    place = 2
    while place < len(answer):
        entry, field, length = answer[place:place + 3]
        found[entry, field] = "".join(map(chr, answer[place + 3:place + 3 + length]))
        place += 3 + length
    if answer[:2] != [0, len(found)] or list(found) != sorted(found) or "" in found.values():
        raise AssertionError(f"no answer of things: {answer}")
    return found


def probes(how_many):
    """Rows of calls that tell houses apart which differ in any change, in the row in force, or in a value."""
    numbers = range(1, how_many + 1)
    new = [draft("swap 1.1 2.1\njoin 3.1 1.1\n"), accept(how_many + 1), things()]
    return [
        [things(), *new],
        [call for number in numbers for call in (accept(number), things())] + new,
        [call for number in reversed(numbers) for call in (acceptall(number), things())] + new,
        [call for number in numbers for call in (takeback(number), things())] + new,
        [call for number in numbers for call in (takeall(number), things())] + new,
        [call for number in numbers for call in (look(number), accept(number), things())] + new,
        [joinall(), things(), *new, joinall()],
    ]


class CallTest(unittest.TestCase):
    def assert_answers(self, calls, expected):
        """Of the last calls, as many as answers are told."""
        self.assertEqual(run(calls)[-len(expected):], expected)

    def assert_refused(self, ahead, call, refusal):
        """The call behind those ahead is refused, and whatever comes then is as if it hadn't been called."""
        self.assertEqual(last([*ahead, call]), [refusal])
        for probe in probes(sum(1 for one in ahead if one[0] == 0)):
            without = run([*ahead, *probe])[len(ahead):]
            behind = run([*ahead, call, *probe])[len(ahead) + 1:]
            self.assertEqual(behind, without)
