"""The calls on a house: each takes its whole numbers and its rows, and gives back its answer."""

from draftjoin.acts import HIGHEST_ENTRY, HIGHEST_FIELD, read_text
from draftjoin.changes import DRAFT, IN_FORCE, filled_things, unlike_things, values_if_done

OUT_OF_RANGE = -1
WRONG_LINE = -3
TOO_MANY_CHANGES = -4
NO_SUCH_CHANGE = -5
NO_DRAFT = -6
CLASHING = -7
LACKING = -8
NOT_IN_FORCE = -9
OTHERS_FALL = -10
NOT_THOSE_IN_FORCE = -11

HIGHEST_EDITOR = 5
HIGHEST_BYTE = 255
MOST_CHANGES = 40
MOST_STOOD_ON = 4
LONGEST_TEXT = 600


def is_row(row, longest, least, most):
    return len(row) <= longest and all([least <= number <= most for number in row])


def is_text(row):
    return is_row(row, LONGEST_TEXT, 0, HIGHEST_BYTE)


def are_changes(row, longest):
    return is_row(row, longest, 1, MOST_CHANGES) and len(set(row)) == len(row)


def is_thing(entry, field):
    return 1 <= entry <= HIGHEST_ENTRY and 1 <= field <= HIGHEST_FIELD


def with_length(row):
    return [len(row)] + row


def signs_of(word):
    return [ord(sign) for sign in word]


def told_with_values(chosen, held):
    told = [len(chosen)]
    for thing in chosen:
        told.extend(list(thing) + with_length(signs_of(held.get(thing, ""))))
    return told


# These refusals are due in one order for all calls on changes; 0 stands for none of them.
def refusal_of_absent(house, numbers):
    if not all([1 <= number <= MOST_CHANGES for number in numbers]):
        return OUT_OF_RANGE
    if not all([house.there_is(number) for number in numbers]):
        return NO_SUCH_CHANGE
    return 0


def refusal_of(house, number, condition, otherwise):
    refusal = refusal_of_absent(house, [number])
    if refusal == 0 and house.numbered(number).condition != condition:
        return otherwise
    return refusal


def refusal_of_draft(house, number):
    return refusal_of(house, number, DRAFT, NO_DRAFT)


def refusal_in_force(house, number):
    return refusal_of(house, number, IN_FORCE, NOT_IN_FORCE)


def draft(house, numbers, rows):
    stands = rows[0]
    if not 1 <= numbers[0] <= HIGHEST_EDITOR or not are_changes(stands, MOST_STOOD_ON) or not is_text(rows[1]):
        return [OUT_OF_RANGE]
    if not all([house.is_draft(number) for number in stands]):
        return [NO_SUCH_CHANGE]
    if len(house.changes) == MOST_CHANGES:
        return [TOO_MANY_CHANGES]
    read = read_text(rows[1])
    if read.wrong_line > 0:
        return [WRONG_LINE]
    return [0, house.put_draft(numbers[0], stands, rows[1], read.acts)]


def check(house, numbers, rows):
    if not is_text(rows[0]):
        return [OUT_OF_RANGE]
    read = read_text(rows[0])
    if read.wrong_line > 0:
        return [0, 1, read.wrong_line]
    return [0, 0, len(read.acts)]


def accept(house, numbers, rows):
    number = numbers[0]
    refusal = refusal_of_draft(house, number)
    if refusal < 0:
        return [refusal]
    if house.clashing(number, house.in_force):
        return [CLASHING]
    if house.lacking(number, house.in_force):
        return [LACKING]
    house.put_in_force(number)
    return [0, len(house.in_force)]


def acceptall(house, numbers, rows):
    refusal = refusal_of_draft(house, numbers[0])
    if refusal < 0:
        return [refusal]
    together = house.lacking_in_all(numbers[0])
    if not house.can_accept_in_turn(together):
        return [CLASHING]
    for number in together:
        house.put_in_force(number)
    return [0] + with_length(together)


def refuse(house, numbers, rows):
    refusal = refusal_of_draft(house, numbers[0])
    if refusal < 0:
        return [refusal]
    house.put_refused(numbers[0])
    return [0]


def look(house, numbers, rows):
    refusal = refusal_of_draft(house, numbers[0])
    if refusal < 0:
        return [refusal]
    house.look_again(numbers[0])
    return [0, len(house.in_force)]


def takeback(house, numbers, rows):
    refusal = refusal_in_force(house, numbers[0])
    if refusal < 0:
        return [refusal]
    fallen = house.falling(numbers[0])
    if len(fallen) > 1:
        return [OTHERS_FALL]
    house.put_back(fallen)
    return [0]


def takeall(house, numbers, rows):
    refusal = refusal_in_force(house, numbers[0])
    if refusal < 0:
        return [refusal]
    fallen = house.falling(numbers[0])
    house.put_back(fallen)
    return [0] + with_length(fallen)


def joinall(house, numbers, rows):
    accepted = []
    for number in range(1, len(house.changes) + 1):
        if house.can_accept(number, house.in_force):
            house.put_in_force(number)
            accepted.append(number)
    return [0] + with_length(accepted)


def value(house, numbers, rows):
    if not is_thing(numbers[0], numbers[1]):
        return [OUT_OF_RANGE]
    return [0] + signs_of(house.held_values().get((numbers[0], numbers[1]), ""))


def things(house, numbers, rows):
    held = house.held_values()
    return [0] + told_with_values(filled_things(held), held)


def would(house, numbers, rows):
    refusal = refusal_of_draft(house, numbers[0])
    if refusal < 0:
        return [refusal]
    held = house.held_values()
    after = values_if_done(house.numbered(numbers[0]), held)
    if after is None:
        return [0, 0, 0]
    return [0, 1] + told_with_values(unlike_things(held, after), after)


def clashes(house, numbers, rows):
    refusal = refusal_of_draft(house, numbers[0])
    if refusal < 0:
        return [refusal]
    return [0] + with_length(house.clashing(numbers[0], house.in_force))


def needs(house, numbers, rows):
    refusal = refusal_of_absent(house, numbers)
    if refusal < 0:
        return [refusal]
    lacking = house.lacking(numbers[0], house.in_force)
    return [0] + with_length(house.needed(numbers[0])) + with_length(lacking)


def falls(house, numbers, rows):
    refusal = refusal_in_force(house, numbers[0])
    if refusal < 0:
        return [refusal]
    return [0] + with_length(house.falling(numbers[0]))


def meet(house, numbers, rows):
    refusal = refusal_of_absent(house, numbers)
    if refusal < 0:
        return [refusal]
    first = numbers[0]
    second = numbers[1]
    return [0, 1 if house.meeting(first, second) else 0, 1 if house.feeding(first, second) else 0]


def change(house, numbers, rows):
    refusal = refusal_of_absent(house, numbers)
    if refusal < 0:
        return [refusal]
    asked = house.numbered(numbers[0])
    return [0, asked.editor, asked.condition, len(asked.seen)] + with_length(asked.stands) + asked.text


def writer(house, numbers, rows):
    if not is_thing(numbers[0], numbers[1]):
        return [OUT_OF_RANGE]
    return [0, house.last_writing((numbers[0], numbers[1]))]


def order(house, numbers, rows):
    row = rows[0]
    if not are_changes(row, MOST_CHANGES):
        return [OUT_OF_RANGE]
    if sorted(row) != sorted(house.in_force):
        return [NOT_THOSE_IN_FORCE]
    unlike = unlike_things(house.held_values(), house.values_in_order(row))
    answer = [0, len(unlike)]
    for thing in unlike:
        answer.extend(list(thing))
    return answer


def force(house, numbers, rows):
    return [0] + with_length(house.in_force)


def state(house, numbers, rows):
    drafts = [one for one in house.changes if one.condition == DRAFT]
    filled = filled_things(house.held_values())
    return [0, len(house.changes), len(drafts), len(house.in_force), len(filled)]


# Each call stands at the place of its number, here and in the two tables below.
CALLS = (
    draft, check, accept, acceptall, refuse, look, takeback, takeall, joinall, value, things,
    would, clashes, needs, falls, meet, change, writer, order, force, state,
)
HOW_MANY_NUMBERS = (
    1, 0, 1, 1, 1, 1, 1, 1, 0, 2, 0,
    1, 1, 1, 1, 2, 1, 2, 0, 0, 0,
)
HOW_MANY_ROWS = (
    2, 1, 0, 0, 0, 0, 0, 0, 0, 0, 0,
    0, 0, 0, 0, 0, 0, 0, 1, 0, 0,
)


def answer_to(house, number, numbers, rows):
    call = CALLS[number]
    return call(house, numbers, rows)
