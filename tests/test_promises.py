"""Many lists of calls, always the same ones: held against the model, and against what is promised of every list."""

import random
import unittest

from tests.helper import accept, check, draft, joinall, run, shown, takeall, things, value
from tests.model import House, acts_of

LISTS = 300
THINGS = ("1.1", "1.2", "2.1", "3.9", "12.1", "20.9", "7.5", "7.6")


def some_line(chance):
    first, second = chance.sample(THINGS[:chance.choice((3, 5, 8))], 2)
    sign = chance.choice(("a", "b", "ab", "0", "abcdefghijklm"))
    word = chance.choice(("set", "set", "set", "clear", "copy", "join", "swap", "need", "empty"))
    if word in ("set", "need"):
        return f"{word} {first} {sign}\n"
    return f"{word} {first}\n" if word in ("clear", "empty") else f"{word} {first} {second}\n"


def some_text(chance):
    text = "".join(some_line(chance) for _ in range(chance.choice((1, 1, 1, 2, 3, 12))))
    if chance.random() < 0.08:
        place = chance.randrange(len(text))
        text = text[:place] + chance.choice((" ", "\n", "0", ".", "a", "A", "")) + text[place + chance.randrange(2):]
    return text


class Played:
    """A list of calls as it is made, with the model beside it."""

    def __init__(self, seed):
        self.chance = random.Random(seed)
        self.model = House()
        self.calls = []
        self.expected = []
        for _ in range(self.chance.choice((20, 60, 190))):
            self.play()

    def drafts(self):
        return [number for number, change in self.model.changes.items() if change.condition == 0]

    def note(self, call, expected):
        self.calls.append(call)
        self.expected.append(expected)

    def play(self):
        call = self.chance.choice((0, 0, 0, 0, 1, 2, 2, 2, 3, 3, 4, 5, 5, 6, 7, 8, 9, 10))
        if call == 0:
            stands = self.chance.sample(self.drafts(), min(len(self.drafts()), self.chance.choice((0, 0, 1, 1, 2, 4))))
            if self.chance.random() < 0.05:
                stands = stands[:3] + [number for number in (self.chance.randint(1, 40),) if number not in stands[:3]]
            text = some_text(self.chance).encode()
            self.note(draft(text, stands), self.model.call_draft(1, stands, text))
        elif call == 1:
            text = some_text(self.chance).encode()
            acts = acts_of(text)
            self.note(check(text), [0, 1, acts] if isinstance(acts, int) else [0, 0, len(acts)])
        elif call < 8:
            of_kind = self.drafts() if call < 6 else self.model.force
            anyone = self.chance.randint(1, len(self.model.changes) + 1)
            number = self.chance.choice(of_kind) if of_kind and self.chance.random() < 0.9 else min(anyone, 40)
            self.note([call, number], self.model.call_on_change(call, number))
        elif call == 8:
            if self.chance.random() < 0.3:
                self.note(joinall(), self.model.joinall())
        elif call == 9:
            thing = tuple(map(int, self.chance.choice(THINGS).split(".")))
            self.note(value(*thing), [0, *self.model.held().get(thing, "").encode()])
        else:
            self.note(things(), self.model.things())


class PromiseTest(unittest.TestCase):
    @classmethod
    def setUpClass(cls):
        cls.all_played = [Played(seed) for seed in range(LISTS)]

    def test_as_the_model_answers(self):
        seen = set()
        for played in self.all_played:
            given = run([*played.calls, things()])
            self.assertEqual(given, [*played.expected, played.model.things()])
            seen |= {(call[0], min(answer[0], 0)) for call, answer in zip(played.calls, given)}
        told = {0: (0, -3, -4, -5), 1: (0,), 2: (0, -5, -6, -7, -8), 3: (0, -5, -6, -7), 4: (0, -5, -6), 5: (0, -5, -6),
                6: (0, -5, -9, -10), 7: (0, -5, -9), 8: (0,), 9: (0,), 10: (0,)}
        for call, numbers in told.items():
            for number in numbers:
                self.assertIn((call, number), seen, "the lists don't come to this answer")

    def test_two_that_do_not_meet_are_accepted_in_either_order(self):
        pairs = 0
        for played in self.all_played:
            model = played.model
            able = [one for one in played.drafts() if not model.clashes(one) and not model.lacks(one)]
            for first in able[:4]:
                for second in able[:4]:
                    if first < second and not model.meet(first, second):
                        pairs += 1
                        one = run([*played.calls, accept(first), accept(second), things()])[-3:]
                        other = run([*played.calls, accept(second), accept(first), things()])[-3:]
                        self.assertEqual(one, other)
                        self.assertEqual([one[0][0], one[1][0]], [0, 0])
        self.assertGreater(pairs, 50)

    def test_any_order_that_keeps_those_that_meet(self):
        moved = 0
        for played in self.all_played:
            model, left, order = played.model, list(played.model.force), []
            while left:
                free = [one for place, one in enumerate(left) if not any(model.meet(one, two) for two in left[:place])]
                order.append(played.chance.choice(free))
                left.remove(order[-1])
            moved += order != model.force
            again = []
            for number, one in enumerate(order, start=1):
                again += [draft(model.changes[one].text), accept(number)]
            self.assertEqual(run([*again, things()])[-1], run([*played.calls, things()])[-1])
        self.assertGreater(moved, 50)

    def test_each_in_force_knew_all_before_it_that_meet_it(self):
        met = 0
        for played in self.all_played:
            model = played.model
            for place, one in enumerate(model.force):
                for other in model.force[:place]:
                    if model.meet(one, other):
                        met += 1
                        self.assertIn(other, model.changes[one].known)
        self.assertGreater(met, 50)

    def test_what_the_fallen_did_not_write_is_as_it_was(self):
        kept = 0
        for played in self.all_played:
            for number in played.model.force:
                before, fallen, after = run([*played.calls, things(), takeall(number), things()])[-3:]
                written = set().union(*[played.model.changes[one].writes for one in fallen[2:]])
                for thing in THINGS:
                    if thing not in written:
                        key = tuple(map(int, thing.split(".")))
                        kept += key in shown(before)
                        self.assertEqual(shown(before).get(key), shown(after).get(key))
        self.assertGreater(kept, 50)
