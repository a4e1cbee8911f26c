"""The calls on one house, read from one list of whole numbers and answered in another."""

from draftjoin.calls import HOW_MANY_NUMBERS, HOW_MANY_ROWS, answer_to
from draftjoin.state import House


class Reader:
    def __init__(self, source):
        self.source = source
        self.place = 0

    def is_done(self):
        return self.place >= len(self.source)

    def take_number(self):
        self.place += 1
        return self.source[self.place - 1]

    # A slice is a copy: what the house keeps of it is never the list that was handed in.
    def take_numbers(self, how_many):
        self.place += how_many
        return self.source[self.place - how_many:self.place]

    def take_row(self):
        return self.take_numbers(self.take_number())


def answers(calls):
    house = House()
    reader = Reader(calls)
    given = []
    while not reader.is_done():
        call = reader.take_number()
        numbers = reader.take_numbers(HOW_MANY_NUMBERS[call])
        rows = [reader.take_row() for place in range(HOW_MANY_ROWS[call])]
        answer = answer_to(house, call, numbers, rows)
        given.append(len(answer))
        given.extend(answer)
    return given
