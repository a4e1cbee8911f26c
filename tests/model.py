"""The document's words a second time, as sets and patterns, to hold the program against on many lists of calls."""

import re

THING = r"((?:[1-9]|1[0-9]|20)\.[1-9])"
VALUE = r"([a-z0-9]{1,20})"
ACT = re.compile(f"(set|need) {THING} {VALUE}|(clear|empty) {THING}|(copy|join|swap) {THING} {THING}")


def act_of(line):
    found = ACT.fullmatch(line)
    words = [word for word in found.groups() if word is not None] if found else []
    if not words or len(words) == 3 and words[1] == words[2] and words[0] not in ("set", "need"):
        return None
    return words


def acts_of(text):
    """The acts of a text, or the number of its first wrong line."""
    *lines, rest = bytes(text).decode("latin-1").split("\n")
    found = [act_of(line) for line in lines]
    wrong = [number for number, act in enumerate(found, start=1) if act is None or number == 13]
    if wrong:
        return wrong[0]
    return len(lines) + 1 if rest or not lines else found


def done(acts, held):
    after = dict(held)
    for word, thing, *other in acts:
        old = after.get(thing, "")
        if word == "need" and old != other[0] or word == "empty" and old:
            return held
        if word in ("set", "clear"):
            after[thing] = other[0] if other else ""
        if word in ("copy", "swap", "join"):
            new = after.get(other[0], "")
            after[thing] = (old + new)[:20] if word == "join" else new
        if word == "swap":
            after[other[0]] = old
    return after


def signs(word):
    return [len(word), *word.encode()]


def pair(thing):
    return tuple(map(int, thing.split(".")))


def by_pairs(held):
    """Values by entry and field, those that are empty left out."""
    return {pair(thing): value for thing, value in held.items() if value}


def unlike(one, other):
    return sorted({*one, *other} - {thing for thing in one if one[thing] == other.get(thing)})


class Change:
    def __init__(self, editor, text, acts, seen, stands):
        self.editor, self.text, self.acts, self.condition = editor, text, acts, 0
        self.seen, self.stands = list(seen), list(stands)
        self.writes = {act[1] for act in acts if act[0] not in ("need", "empty")}
        self.writes |= {act[2] for act in acts if act[0] == "swap"}
        self.touched = self.writes | {act[1] for act in acts}
        self.touched |= {act[2] for act in acts if act[0] in ("copy", "join", "swap")}

    @property
    def known(self):
        return {*self.seen, *self.stands}


class House:
    def __init__(self):
        self.changes, self.force = {}, []

    def feeds(self, first, second):
        return bool(self.changes[first].writes & self.changes[second].touched)

    def meet(self, first, second):
        return self.feeds(first, second) or self.feeds(second, first)

    def clashes(self, number):
        return {one for one in self.force if one not in self.changes[number].known and self.meet(one, number)}

    def lacks(self, number):
        return {one for one in self.changes[number].known if self.feeds(one, number)} - {*self.force}

    def lacks_all(self, number):
        return {number}.union(*[self.lacks_all(one) for one in self.lacks(number)])

    def take(self, number):
        """Accepts it if it can be accepted."""
        if self.changes[number].condition or self.clashes(number) or self.lacks(number):
            return False
        self.changes[number].condition = 1
        self.force.append(number)
        return True

    def falls(self, number):
        fallen = []
        for one in self.force:
            if one == number or any(self.feeds(other, one) for other in fallen):
                fallen.append(one)
        return fallen

    def back(self, numbers):
        for number in numbers:
            self.changes[number].condition = 3
            self.force.remove(number)

    def raw(self, row):
        held = {}
        for number in row:
            held = done(self.changes[number].acts, held)
        return held

    def held(self):
        return by_pairs(self.raw(self.force))

    def call_draft(self, editor, stands, text):
        acts = acts_of(text)
        if any(one not in self.changes or self.changes[one].condition for one in stands):
            return [-5]
        if len(self.changes) == 40:
            return [-4]
        if isinstance(acts, int):
            return [-3]
        self.changes[len(self.changes) + 1] = Change(editor, text, acts, self.force, stands)
        return [0, len(self.changes)]

    def call_on_change(self, call, number):
        if number not in self.changes:
            return [-5]
        if (self.changes[number].condition != 0) if call < 6 else (self.changes[number].condition != 1):
            return [-6 if call < 6 else -9]
        return (self.accept, self.acceptall, self.refuse, self.look, self.takeback, self.takeall)[call - 2](number)

    def accept(self, number):
        if self.clashes(number):
            return [-7]
        return [0, len(self.force)] if self.take(number) else [-8]

    def acceptall(self, number):
        wanted = sorted(self.lacks_all(number))
        before = list(self.force)
        if all(self.take(one) for one in wanted):
            return [0, len(wanted), *wanted]
        for one in self.force[len(before):]:
            self.changes[one].condition = 0
        self.force = before
        return [-7]

    def refuse(self, number):
        self.changes[number].condition = 2
        return [0]

    def look(self, number):
        self.changes[number].seen, self.changes[number].stands = list(self.force), []
        return [0, len(self.force)]

    def takeback(self, number):
        if self.falls(number) != [number]:
            return [-10]
        self.back([number])
        return [0]

    def takeall(self, number):
        fallen = self.falls(number)
        self.back(fallen)
        return [0, len(fallen), *fallen]

    def joinall(self):
        taken = [number for number in sorted(self.changes) if self.take(number)]
        return [0, len(taken), *taken]

    def things(self):
        held = self.held()
        answer = [0, len(held)]
        for thing in sorted(held):
            answer += [*thing, *signs(held[thing])]
        return answer

    def ask(self, call, number):
        """The calls 11 to 14 and 16."""
        if number not in self.changes:
            return [-5]
        condition = self.changes[number].condition
        if call in (11, 12) and condition != 0:
            return [-6]
        if call == 14 and condition != 1:
            return [-9]
        asked = {11: self.would, 12: self.clash_list, 13: self.needs, 14: self.fall_list, 16: self.told}
        return [0, *asked[call](number)]

    def would(self, number):
        # A mark of its own, put in as if it were a thing, is gone if and only if the change failed.
        before = self.raw(self.force)
        marked = done([*self.changes[number].acts, ["set", "0.0", "x"]], before)
        after = {thing: value for thing, value in marked.items() if thing != "0.0"}
        before, after = by_pairs(before), by_pairs(after)
        found = unlike(before, after)
        answer = [int("0.0" in marked), len(found)]
        for thing in found:
            answer += [*thing, *signs(after.get(thing, ""))]
        return answer

    def clash_list(self, number):
        found = sorted(self.clashes(number), key=self.force.index)
        return [len(found), *found]

    def needs(self, number):
        change = self.changes[number]
        needed = [one for one in change.seen if self.feeds(one, number)]
        needed += [one for one in change.stands if self.feeds(one, number)]
        lacked = [one for one in needed if self.changes[one].condition != 1]
        return [len(needed), *needed, len(lacked), *lacked]

    def fall_list(self, number):
        fallen = self.falls(number)
        return [len(fallen), *fallen]

    def told(self, number):
        one = self.changes[number]
        return [one.editor, one.condition, len(one.seen), len(one.stands), *one.stands, *one.text]

    def meets(self, first, second):
        if first not in self.changes or second not in self.changes:
            return [-5]
        return [0, int(self.meet(first, second)), int(self.feeds(first, second))]

    def writer(self, thing):
        return [0, next((one for one in reversed(self.force) if thing in self.changes[one].writes), 0)]

    def order(self, row):
        if {*row} != {*self.force}:
            return [-11]
        found = unlike(self.held(), by_pairs(self.raw(row)))
        return [0, len(found), *[part for thing in found for part in thing]]

    def state(self):
        drafts = [one for one in self.changes.values() if one.condition == 0]
        return [0, len(self.changes), len(drafts), len(self.force), len(self.held())]
