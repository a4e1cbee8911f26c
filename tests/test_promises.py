"""Many lists of calls, always the same ones: held against the model, and against what is promised of every list."""

import random
import unittest

from draftjoin.house import answers
from tests.helper import (
    accept, check, clashes, draft, falls, force, joinall, look, meet, needs, order, run, shown, state, takeall,
    taken_apart, things, value, would, writer,
)
from tests.model import House, acts_of, pair, signs

LISTS = 300
# Calls as often as they are drawn: enough drafts that some lists come to forty changes.
DRAWN = (*[0] * 8, 1, 2, 2, 2, 3, 3, 4, 5, 5, 6, 7, 8, *range(9, 21))
THINGS = ("1.1", "1.2", "2.1", "3.9", "12.1", "20.9", "7.5", "7.6")


def some_line(chance):
    first, second = chance.sample(THINGS[:chance.choice((3, 5, 8))], 2)
    sign = chance.choice(("a", "b", "ab", "0", "abcdefghijklm"))
    word = chance.choice(("set", "set", "set", "clear", "copy", "join", "swap", "need", "empty"))
    if word in ("set", "need"):
        return f"{word} {first} {sign}\n"
    return f"{word} {first}\n" if word in ("clear", "empty") else f"{word} {first} {second}\n"


def some_text(chance):
    text = "".join(some_line(chance) for _ in range(chance.choice((1, 1, 1, 2, 3, 12))))
    if chance.random() < 0.08:
        place = chance.randrange(len(text))
        text = text[:place] + chance.choice((" ", "\n", "0", ".", "a", "A", "")) + text[place + chance.randrange(2):]
    return text


def known_by_each(calls):
    """What each change knows, from the row in force that is told behind each call."""
    given = run([part for call in calls for part in (call, force())])
    known = {}
    for call, answer, told in zip(calls, given[::2], given[1::2]):
        if call[0] == 0 and answer[0] == 0:
            known[answer[1]] = {*told[2:], *call[3:3 + call[2]]}
        if call[0] == 5 and answer[0] == 0:
            known[call[1]] = {*told[2:]}
    return known


class Played:
    """A list of calls as it is made, with the model beside it."""

    def __init__(self, seed, how_many=None):
        self.chance = random.Random(seed)
        self.model = House()
        self.calls = []
        self.expected = []
        how_many = how_many or self.chance.choice((20, 60, 190))
        while len(self.calls) < how_many:
            self.play(self.chance.choice(DRAWN))

    def drafts(self):
        return [number for number, change in self.model.changes.items() if change.condition == 0]

    def note(self, call, expected):
        self.calls.append(call)
        self.expected.append(expected)

    def number(self, of_kind):
        """Mostly one of those told, else any, or one that isn't there."""
        anyone = self.chance.randint(1, len(self.model.changes) + 1)
        return self.chance.choice(of_kind) if of_kind and self.chance.random() < 0.9 else min(anyone, 40)

    def thing(self):
        return self.chance.choice(THINGS)

    def play(self, call):
        if call >= 11:
            self.ask(call)
        elif call == 0:
            stands = self.chance.sample(self.drafts(), min(len(self.drafts()), self.chance.choice((0, 0, 1, 1, 2, 4))))
            if self.chance.random() < 0.05:
                stands = stands[:3] + [number for number in (self.chance.randint(1, 40),) if number not in stands[:3]]
            text = some_text(self.chance).encode()
            editor = self.chance.randint(1, 5)
            self.note(draft(text, stands, editor), self.model.call_draft(editor, stands, text))
        elif call == 1:
            text = some_text(self.chance).encode()
            acts = acts_of(text)
            self.note(check(text), [0, 1, acts] if isinstance(acts, int) else [0, 0, len(acts)])
        elif call < 8:
            number = self.number(self.drafts() if call < 6 else self.model.force)
            self.note([call, number], self.model.call_on_change(call, number))
        elif call == 8:
            if self.chance.random() < 0.3:
                self.note(joinall(), self.model.joinall())
        elif call == 9:
            thing = pair(self.thing())
            self.note(value(*thing), [0, *self.model.held().get(thing, "").encode()])
        else:
            self.note(things(), self.model.things())

    def ask(self, call):
        model = self.model
        if call in (11, 12, 13, 14, 16):
            kinds = {11: self.drafts(), 12: self.drafts(), 14: model.force}
            number = self.number(kinds.get(call, list(model.changes)))
            self.note([call, number], model.ask(call, number))
        elif call == 15:
            first, second = self.number(list(model.changes)), self.number(list(model.changes))
            self.note(meet(first, second), model.meets(first, second))
        elif call == 17:
            thing = self.thing()
            self.note(writer(*pair(thing)), model.writer(thing))
        elif call == 18:
            numbers = self.some_order()
            self.note(order(numbers), model.order(numbers))
        elif call == 19:
            self.note(force(), [0, len(model.force), *model.force])
        else:
            self.note(state(), model.state())

    def some_order(self):
        """Those in force in any order; at times one too few, or one more that isn't in force."""
        numbers = self.chance.sample(self.model.force, len(self.model.force))
        chance = self.chance.random()
        if chance < 0.1:
            return numbers[1:]
        others = [number for number in range(1, 41) if number not in numbers]
        return [*numbers[:39], self.chance.choice(others)] if chance > 0.9 and others else numbers

    def order_that_keeps_those_that_meet(self):
        left, moved = list(self.model.force), []
        while left:
            free = [one for place, one in enumerate(left) if not any(self.model.meet(one, two) for two in left[:place])]
            moved.append(self.chance.choice(free))
            left.remove(moved[-1])
        return moved


class PromiseTest(unittest.TestCase):
    @classmethod
    def setUpClass(cls):
        cls.all_played = [Played(seed) for seed in range(LISTS)]

    def test_as_the_model_answers(self):
        seen = set()
        for played in self.all_played:
            given = run([*played.calls, things()])
            self.assertEqual(given, [*played.expected, played.model.things()])
            seen |= {(call[0], min(answer[0], 0)) for call, answer in zip(played.calls, given)}
        told = {0: (0, -3, -4, -5), 1: (0,), 2: (0, -5, -6, -7, -8), 3: (0, -5, -6, -7), 4: (0, -5, -6), 5: (0, -5, -6),
                6: (0, -5, -9, -10), 7: (0, -5, -9), 8: (0,), 9: (0,), 10: (0,), 11: (0, -5, -6), 12: (0, -5, -6),
                13: (0, -5), 14: (0, -5, -9), 15: (0, -5), 16: (0, -5), 17: (0,), 18: (0, -11), 19: (0,), 20: (0,)}
        for call, numbers in told.items():
            for number in numbers:
                self.assertIn((call, number), seen, "the lists don't come to this answer")

    def test_two_hundred_calls_of_every_kind(self):
        for seed in range(LISTS, LISTS + 10):
            played = Played(seed, 200)
            handed = [number for call in played.calls for number in call]
            before = list(handed)
            self.assertEqual(len(played.calls), 200)
            self.assertEqual({call[0] for call in played.calls}, {*range(21)})
            self.assertLessEqual(len(handed), 16000)
            given = answers(handed)
            self.assertEqual(taken_apart(given), played.expected)
            self.assertEqual(handed, before)
            self.assertEqual(answers(handed), given)

    def test_what_would_be_is_when_it_is_accepted(self):
        done, failed = 0, 0
        for played in self.all_played:
            for number in played.drafts()[-4:]:
                before, told, looked, taken, after = run(
                    [*played.calls, things(), would(number), look(number), accept(number), things()])[-5:]
                self.assertEqual([looked[0], taken[0]], [0, 0])
                before, after = shown(before), shown(after)
                found = sorted(thing for thing in {*before, *after} if before.get(thing) != after.get(thing))
                expected = [part for thing in found for part in (*thing, *signs(after.get(thing, "")))]
                self.assertEqual(told[2:], [len(found), *expected])
                done += len(found)
                failed += told[1] == 0
        self.assertGreater(done, 50)
        self.assertGreater(failed, 50)

    def test_a_draft_is_accepted_if_it_clashes_with_none_and_lacks_none(self):
        seen = set()
        for played in self.all_played:
            for number in played.drafts()[-4:]:
                clashing, needed, taken = run([*played.calls, clashes(number), needs(number), accept(number)])[-3:]
                lacking = needed[2 + needed[1]]
                expected = -7 if clashing[1] else -8 if lacking else 0
                self.assertEqual(taken[0], expected)
                seen.add(expected)
        self.assertEqual(seen, {0, -7, -8})

    def test_two_that_do_not_meet_are_accepted_in_either_order(self):
        pairs = 0
        for played in self.all_played:
            model = played.model
            able = [one for one in played.drafts() if not model.clashes(one) and not model.lacks(one)]
            for first in able[:4]:
                for second in able[:4]:
                    if first < second and not model.meet(first, second):
                        pairs += 1
                        self.assertEqual(run([*played.calls, meet(first, second)])[-1], [0, 0, 0])
                        one = run([*played.calls, accept(first), accept(second), things()])[-3:]
                        other = run([*played.calls, accept(second), accept(first), things()])[-3:]
                        self.assertEqual(one, other)
                        self.assertEqual([one[0][0], one[1][0]], [0, 0])
        self.assertGreater(pairs, 50)

    def test_any_order_that_keeps_those_that_meet(self):
        moved = 0
        for played in self.all_played:
            numbers = played.order_that_keeps_those_that_meet()
            moved += numbers != played.model.force
            again = []
            for number, one in enumerate(numbers, start=1):
                again += [draft(played.model.changes[one].text), accept(number)]
            told, held = run([*played.calls, order(numbers), things()])[-2:]
            self.assertEqual(told, [0, 0])
            self.assertEqual(run([*again, things()])[-1], held)
        self.assertGreater(moved, 50)

    def test_other_orders_come_to_what_order_tells(self):
        unlike = 0
        for played in self.all_played:
            numbers = played.chance.sample(played.model.force, len(played.model.force))
            again = []
            for number, one in enumerate(numbers, start=1):
                again += [draft(played.model.changes[one].text), accept(number)]
            told, held = run([*played.calls, order(numbers), things()])[-2:]
            before, after = shown(held), shown(run([*again, things()])[-1])
            found = sorted(thing for thing in {*before, *after} if before.get(thing) != after.get(thing))
            unlike += len(found)
            self.assertEqual(told, [0, len(found), *[part for thing in found for part in thing]])
        self.assertGreater(unlike, 50)

    def test_each_in_force_knew_all_before_it_that_meet_it(self):
        met = 0
        for played in self.all_played:
            if len(played.calls) <= 100:
                known = known_by_each(played.calls)
                numbers = run([*played.calls, force()])[-1][2:]
                for place, one in enumerate(numbers):
                    asked = [meet(one, other) for other in numbers[:place]]
                    told = run([*played.calls, *asked])[len(played.calls):]
                    before = {other for other, answer in zip(numbers, told) if answer[1] == 1}
                    met += len(before)
                    self.assertLessEqual(before, known[one])
        self.assertGreater(met, 50)

    def test_what_the_fallen_did_not_write_is_as_it_was(self):
        kept = 0
        for played in self.all_played:
            for number in played.model.force:
                taking = [things(), falls(number), takeall(number), things()]
                before, told, fallen, after = run([*played.calls, *taking])[-4:]
                self.assertEqual(told, fallen)
                written = set().union(*[played.model.changes[one].writes for one in fallen[2:]])
                for thing in THINGS:
                    if thing not in written:
                        key = pair(thing)
                        kept += key in shown(before)
                        self.assertEqual(shown(before).get(key), shown(after).get(key))
        self.assertGreater(kept, 50)
