"""The calls on a house: each takes its whole numbers and its rows, and gives back its answer."""

from draftjoin.acts import HIGHEST_ENTRY, HIGHEST_FIELD, read_text
from draftjoin.changes import DRAFT, IN_FORCE

OUT_OF_RANGE = -1
WRONG_LINE = -3
TOO_MANY_CHANGES = -4
NO_SUCH_CHANGE = -5
NO_DRAFT = -6
CLASHING = -7
LACKING = -8
NOT_IN_FORCE = -9
OTHERS_FALL = -10

HIGHEST_EDITOR = 5
HIGHEST_BYTE = 255
MOST_CHANGES = 40
MOST_STOOD_ON = 4
LONGEST_TEXT = 600


def is_row(row, longest, least, most):
    return len(row) <= longest and all([least <= number <= most for number in row])


def is_text(row):
    return is_row(row, LONGEST_TEXT, 0, HIGHEST_BYTE)


def are_changes(row, longest):
    return is_row(row, longest, 1, MOST_CHANGES) and len(set(row)) == len(row)


def with_length(row):
    return [len(row)] + row


def signs_of(word):
    return [ord(sign) for sign in word]


# These refusals are due in one order for all calls on a change; 0 stands for none of them.
def refusal_of(house, number, condition, otherwise):
    if not 1 <= number <= MOST_CHANGES:
        return OUT_OF_RANGE
    if not house.there_is(number):
        return NO_SUCH_CHANGE
    if house.numbered(number).condition != condition:
        return otherwise
    return 0


def refusal_of_draft(house, number):
    return refusal_of(house, number, DRAFT, NO_DRAFT)


def refusal_in_force(house, number):
    return refusal_of(house, number, IN_FORCE, NOT_IN_FORCE)


def draft(house, numbers, rows):
    stands = rows[0]
    if not 1 <= numbers[0] <= HIGHEST_EDITOR or not are_changes(stands, MOST_STOOD_ON) or not is_text(rows[1]):
        return [OUT_OF_RANGE]
    if not all([house.is_draft(number) for number in stands]):
        return [NO_SUCH_CHANGE]
    if len(house.changes) == MOST_CHANGES:
        return [TOO_MANY_CHANGES]
    read = read_text(rows[1])
    if read.wrong_line > 0:
        return [WRONG_LINE]
    return [0, house.put_draft(read.acts, stands)]


def check(house, numbers, rows):
    if not is_text(rows[0]):
        return [OUT_OF_RANGE]
    read = read_text(rows[0])
    if read.wrong_line > 0:
        return [0, 1, read.wrong_line]
    return [0, 0, len(read.acts)]


def accept(house, numbers, rows):
    number = numbers[0]
    refusal = refusal_of_draft(house, number)
    if refusal < 0:
        return [refusal]
    if house.clashing(number, house.force):
        return [CLASHING]
    if house.lacking(number, house.force):
        return [LACKING]
    house.put_in_force(number)
    return [0, len(house.force)]


def acceptall(house, numbers, rows):
    refusal = refusal_of_draft(house, numbers[0])
    if refusal < 0:
        return [refusal]
    together = house.lacking_in_all(numbers[0])
    if not house.can_accept_in_turn(together):
        return [CLASHING]
    for number in together:
        house.put_in_force(number)
    return [0] + with_length(together)


def refuse(house, numbers, rows):
    refusal = refusal_of_draft(house, numbers[0])
    if refusal < 0:
        return [refusal]
    house.put_refused(numbers[0])
    return [0]


def look(house, numbers, rows):
    refusal = refusal_of_draft(house, numbers[0])
    if refusal < 0:
        return [refusal]
    house.look_again(numbers[0])
    return [0, len(house.force)]


def takeback(house, numbers, rows):
    refusal = refusal_in_force(house, numbers[0])
    if refusal < 0:
        return [refusal]
    fallen = house.falling(numbers[0])
    if len(fallen) > 1:
        return [OTHERS_FALL]
    house.put_back(fallen)
    return [0]


def takeall(house, numbers, rows):
    refusal = refusal_in_force(house, numbers[0])
    if refusal < 0:
        return [refusal]
    fallen = house.falling(numbers[0])
    house.put_back(fallen)
    return [0] + with_length(fallen)


def joinall(house, numbers, rows):
    accepted = []
    for number in range(1, len(house.changes) + 1):
        if house.can_accept(number, house.force):
            house.put_in_force(number)
            accepted.append(number)
    return [0] + with_length(accepted)


def value(house, numbers, rows):
    entry = numbers[0]
    field = numbers[1]
    if not 1 <= entry <= HIGHEST_ENTRY or not 1 <= field <= HIGHEST_FIELD:
        return [OUT_OF_RANGE]
    return [0] + signs_of(house.held_values().get((entry, field), ""))


def things(house, numbers, rows):
    held = house.held_values()
    filled = [thing for thing in sorted(held) if held[thing] != ""]
    answer = [0, len(filled)]
    for thing in filled:
        answer.extend(list(thing) + with_length(signs_of(held[thing])))
    return answer


# Each call stands at the place of its number, here and in the two tables below.
CALLS = (draft, check, accept, acceptall, refuse, look, takeback, takeall, joinall, value, things)
HOW_MANY_NUMBERS = (1, 0, 1, 1, 1, 1, 1, 1, 0, 2, 0)
HOW_MANY_ROWS = (2, 1, 0, 0, 0, 0, 0, 0, 0, 0, 0)


def answer_to(house, number, numbers, rows):
    call = CALLS[number]
    return call(house, numbers, rows)
