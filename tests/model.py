"""The document's words a second time, as sets and patterns, to hold the program against on many lists of calls."""

import re

THING = r"((?:[1-9]|1[0-9]|20)\.[1-9])"
VALUE = r"([a-z0-9]{1,20})"
ACT = re.compile(f"(set|need) {THING} {VALUE}|(clear|empty) {THING}|(copy|join|swap) {THING} {THING}")


def act_of(line):
    found = ACT.fullmatch(line)
    words = [word for word in found.groups() if word is not None] if found else []
    if not words or len(words) == 3 and words[1] == words[2] and words[0] not in ("set", "need"):
        return None
    return words


def acts_of(text):
    """The acts of a text, or the number of its first wrong line."""
    *lines, rest = bytes(text).decode("latin-1").split("\n")
    found = [act_of(line) for line in lines]
    wrong = [number for number, act in enumerate(found, start=1) if act is None or number == 13]
    if wrong:
        return wrong[0]
    return len(lines) + 1 if rest or not lines else found


def done(acts, held):
    after = dict(held)
    for word, thing, *other in acts:
        old = after.get(thing, "")
        if word == "need" and old != other[0] or word == "empty" and old:
            return held
        if word in ("set", "clear"):
            after[thing] = other[0] if other else ""
        if word in ("copy", "swap", "join"):
            new = after.get(other[0], "")
            after[thing] = (old + new)[:20] if word == "join" else new
        if word == "swap":
            after[other[0]] = old
    return after


class Change:
    def __init__(self, text, acts, seen, stands):
        self.text, self.acts, self.known, self.condition = text, acts, {*seen, *stands}, 0
        self.writes = {act[1] for act in acts if act[0] not in ("need", "empty")}
        self.writes |= {act[2] for act in acts if act[0] == "swap"}
        self.touched = self.writes | {act[1] for act in acts}
        self.touched |= {act[2] for act in acts if act[0] in ("copy", "join", "swap")}


class House:
    def __init__(self):
        self.changes, self.force = {}, []

    def feeds(self, first, second):
        return bool(self.changes[first].writes & self.changes[second].touched)

    def meet(self, first, second):
        return self.feeds(first, second) or self.feeds(second, first)

    def clashes(self, number):
        return {one for one in self.force if one not in self.changes[number].known and self.meet(one, number)}

    def lacks(self, number):
        return {one for one in self.changes[number].known if self.feeds(one, number)} - {*self.force}

    def lacks_all(self, number):
        return {number}.union(*[self.lacks_all(one) for one in self.lacks(number)])

    def take(self, number):
        """Accepts it if it can be accepted."""
        if self.changes[number].condition or self.clashes(number) or self.lacks(number):
            return False
        self.changes[number].condition = 1
        self.force.append(number)
        return True

    def falls(self, number):
        fallen = []
        for one in self.force:
            if one == number or any(self.feeds(other, one) for other in fallen):
                fallen.append(one)
        return fallen

    def back(self, numbers):
        for number in numbers:
            self.changes[number].condition = 3
            self.force.remove(number)

    def held(self):
        held = {}
        for number in self.force:
            held = done(self.changes[number].acts, held)
        return {tuple(map(int, thing.split("."))): value for thing, value in held.items() if value}

    def call_draft(self, editor, stands, text):
        acts = acts_of(text)
        if any(one not in self.changes or self.changes[one].condition for one in stands):
            return [-5]
        if len(self.changes) == 40:
            return [-4]
        if isinstance(acts, int):
            return [-3]
        self.changes[len(self.changes) + 1] = Change(text, acts, self.force, stands)
        return [0, len(self.changes)]

    def call_on_change(self, call, number):
        if number not in self.changes:
            return [-5]
        if (self.changes[number].condition != 0) if call < 6 else (self.changes[number].condition != 1):
            return [-6 if call < 6 else -9]
        return (self.accept, self.acceptall, self.refuse, self.look, self.takeback, self.takeall)[call - 2](number)

    def accept(self, number):
        if self.clashes(number):
            return [-7]
        return [0, len(self.force)] if self.take(number) else [-8]

    def acceptall(self, number):
        wanted = sorted(self.lacks_all(number))
        before = list(self.force)
        if all(self.take(one) for one in wanted):
            return [0, len(wanted), *wanted]
        for one in self.force[len(before):]:
            self.changes[one].condition = 0
        self.force = before
        return [-7]

    def refuse(self, number):
        self.changes[number].condition = 2
        return [0]

    def look(self, number):
        self.changes[number].known = set(self.force)
        return [0, len(self.force)]

    def takeback(self, number):
        if self.falls(number) != [number]:
            return [-10]
        self.back([number])
        return [0]

    def takeall(self, number):
        fallen = self.falls(number)
        self.back(fallen)
        return [0, len(fallen), *fallen]

    def joinall(self):
        taken = [number for number in sorted(self.changes) if self.take(number)]
        return [0, len(taken), *taken]

    def things(self):
        held = self.held()
        answer = [0, len(held)]
        for thing in sorted(held):
            answer += [*thing, len(held[thing]), *held[thing].encode()]
        return answer
