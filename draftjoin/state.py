"""What a house keeps: its changes by number, and the row of those in force."""

from draftjoin.changes import Change, DRAFT, IN_FORCE, REFUSED, TAKEN_BACK, feeds, meet, values_behind


class House:
    def __init__(self):
        self.changes = []
        self.in_force = []

    def numbered(self, number):
        return self.changes[number - 1]

    def there_is(self, number):
        return number <= len(self.changes)

    def is_draft(self, number):
        return self.there_is(number) and self.numbered(number).condition == DRAFT

    def put_draft(self, editor, stands, text, acts):
        self.changes.append(Change(editor, text, acts, list(self.in_force), stands))
        return len(self.changes)

    def feeding(self, first, second):
        return feeds(self.numbered(first), self.numbered(second))

    def meeting(self, first, second):
        return meet(self.numbered(first), self.numbered(second))

    # The row is told, so that acceptall can try what would be in force before it changes anything.
    def clashing(self, number, row):
        known = self.numbered(number).known()
        return [other for other in row if other not in known and self.meeting(other, number)]

    def needed(self, number):
        return [other for other in self.numbered(number).known() if self.feeding(other, number)]

    def lacking(self, number, row):
        return [other for other in self.needed(number) if other not in row]

    def can_accept(self, number, row):
        return self.is_draft(number) and not self.clashing(number, row) and not self.lacking(number, row)

    def lacking_in_all(self, number):
        found = [number]
        place = 0
        while place < len(found):
            for other in self.lacking(found[place], self.in_force):
                if other not in found:
                    found.append(other)
            place += 1
        return sorted(found)

    def can_accept_in_turn(self, numbers):
        row = list(self.in_force)
        for number in numbers:
            if not self.can_accept(number, row):
                return False
            row.append(number)
        return True

    def put_in_force(self, number):
        change = self.numbered(number)
        change.condition = IN_FORCE
        self.in_force.append(number)

    def put_refused(self, number):
        change = self.numbered(number)
        change.condition = REFUSED

    def look_again(self, number):
        change = self.numbered(number)
        change.seen = list(self.in_force)
        change.stands = []

    def falling(self, number):
        fallen = [number]
        for other in self.in_force[self.in_force.index(number) + 1:]:
            if any([self.feeding(one, other) for one in fallen]):
                fallen.append(other)
        return fallen

    def put_back(self, numbers):
        for number in numbers:
            change = self.numbered(number)
            change.condition = TAKEN_BACK
        self.in_force = [number for number in self.in_force if number not in numbers]

    def last_writing(self, thing):
        found = 0
        for number in self.in_force:
            if thing in self.numbered(number).writes:
                found = number
        return found

    def values_in_order(self, row):
        held = {}
        for number in row:
            held = values_behind(self.numbered(number), held)
        return held

    def held_values(self):
        return self.values_in_order(self.in_force)
