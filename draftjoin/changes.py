"""A change: what it reads and writes, what it does, and which others it feeds and meets."""

from draftjoin.acts import LONGEST_VALUE

READING_FIRST = ("join", "swap", "need", "empty")
READING_SECOND = ("copy", "join", "swap")
WRITING_FIRST = ("set", "clear", "copy", "join", "swap")
WRITING_SECOND = ("swap",)

DRAFT = 0
IN_FORCE = 1
REFUSED = 2
TAKEN_BACK = 3


def things_of(acts, with_first, with_second):
    found = {}
    for act in acts:
        if act[0] in with_first:
            found[act[1]] = True
        if act[0] in with_second:
            found[act[2]] = True
    return found


class Change:
    def __init__(self, editor, text, acts, seen, stands):
        self.editor = editor
        self.text = text
        self.acts = acts
        self.reads = things_of(acts, READING_FIRST, READING_SECOND)
        self.writes = things_of(acts, WRITING_FIRST, WRITING_SECOND)
        self.seen = seen
        self.stands = stands
        self.condition = DRAFT

    def known(self):
        return self.seen + self.stands


def feeds(giver, taker):
    return any([thing in taker.reads or thing in taker.writes for thing in giver.writes])


def meet(one, another):
    return feeds(one, another) or feeds(another, one)


def act_fails(act, held):
    value = held.get(act[1], "")
    if act[0] == "need":
        return value != act[2]
    return act[0] == "empty" and value != ""


def do_act(act, held):
    word = act[0]
    thing = act[1]
    before = held.get(thing, "")
    if word == "set":
        held[thing] = act[2]
    elif word == "clear":
        held[thing] = ""
    elif word == "copy":
        held[thing] = held.get(act[2], "")
    elif word == "join":
        held[thing] = (before + held.get(act[2], ""))[:LONGEST_VALUE]
    elif word == "swap":
        held[thing] = held.get(act[2], "")
        held[act[2]] = before


# The acts are done on a copy, so that a change that fails halfway has done nothing; None stands for failing.
def values_if_done(change, held):
    after = dict(held)
    for act in change.acts:
        if act_fails(act, after):
            return None
        do_act(act, after)
    return after


def values_behind(change, held):
    after = values_if_done(change, held)
    return held if after is None else after


def filled_things(held):
    return [thing for thing in sorted(held) if held[thing] != ""]


# A thing that one of them doesn't name is empty there, which may be no difference.
def unlike_things(before, after):
    named = sorted(set(before) | set(after))
    return [thing for thing in named if before.get(thing, "") != after.get(thing, "")]
