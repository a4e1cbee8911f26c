"""What a house keeps: its changes by number, and the row of those in force."""

from draftjoin.changes import Change, DRAFT, IN_FORCE, REFUSED, TAKEN_BACK, feeds, meet, values_behind


class House:
    def __init__(self):
        self.changes = []
        self.force = []

    def numbered(self, number):
        return self.changes[number - 1]

    def there_is(self, number):
        return number <= len(self.changes)

    def is_draft(self, number):
        return self.there_is(number) and self.numbered(number).condition == DRAFT

    def put_draft(self, acts, stands):
        self.changes.append(Change(acts, list(self.force), stands))
        return len(self.changes)

    # The row is told, so that acceptall can try what would be in force before it changes anything.
    def clashing(self, number, row):
        change = self.numbered(number)
        known = change.known()
        return [other for other in row if other not in known and meet(self.numbered(other), change)]

    def needed(self, number):
        change = self.numbered(number)
        return [other for other in change.known() if feeds(self.numbered(other), change)]

    def lacking(self, number, row):
        return [other for other in self.needed(number) if other not in row]

    def can_accept(self, number, row):
        return self.is_draft(number) and not self.clashing(number, row) and not self.lacking(number, row)

    def lacking_in_all(self, number):
        found = [number]
        place = 0
        while place < len(found):
            for other in self.lacking(found[place], self.force):
                if other not in found:
                    found.append(other)
            place += 1
        return sorted(found)

    def can_accept_in_turn(self, numbers):
        row = list(self.force)
        for number in numbers:
            if not self.can_accept(number, row):
                return False
            row.append(number)
        return True

    def put_in_force(self, number):
        change = self.numbered(number)
        change.condition = IN_FORCE
        self.force.append(number)

    def put_refused(self, number):
        change = self.numbered(number)
        change.condition = REFUSED

    def look_again(self, number):
        change = self.numbered(number)
        change.seen = list(self.force)
        change.stands = []

    def falling(self, number):
        fallen = [number]
        for other in self.force[self.force.index(number) + 1:]:
            if any([feeds(self.numbered(one), self.numbered(other)) for one in fallen]):
                fallen.append(other)
        return fallen

    def put_back(self, numbers):
        for number in numbers:
            change = self.numbered(number)
            change.condition = TAKEN_BACK
        self.force = [number for number in self.force if number not in numbers]

    def held_values(self):
        held = {}
        for number in self.force:
            held = values_behind(self.numbered(number), held)
        return held
