"""A change's text, read into its acts.

An act is a tuple: its word, its first thing, and its second thing or value (None where it has neither).
A thing is a tuple of its entry and its field, so that things compare in the document's order.
"""

# As in the document: T and U stand for things, V for a value.
FORMS = {"set": "TV", "clear": "T", "copy": "TU", "join": "TU", "swap": "TU", "need": "TV", "empty": "T"}
LETTERS = "abcdefghijklmnopqrstuvwxyz"
DIGITS = "0123456789"
OTHER_SIGNS = " .\n"
# No act has this sign, so every byte that is turned into it makes its line wrong.
WRONG_SIGN = "?"

HIGHEST_ENTRY = 20
HIGHEST_FIELD = 9
LONGEST_VALUE = 20
MOST_ACTS = 12


def sign_in(signs, byte):
    place = byte - ord(signs[0])
    if 0 <= place < len(signs):
        return signs[place]
    return None


def sign_of(byte):
    for sign in OTHER_SIGNS:
        if ord(sign) == byte:
            return sign
    return sign_in(LETTERS, byte) or sign_in(DIGITS, byte) or WRONG_SIGN


def read_number(word, highest):
    for number in range(1, highest + 1):
        if str(number) == word:
            return number
    return None


def read_thing(word):
    parts = word.split(".")
    if len(parts) != 2:
        return None
    entry = read_number(parts[0], HIGHEST_ENTRY)
    field = read_number(parts[1], HIGHEST_FIELD)
    if entry is None or field is None:
        return None
    return (entry, field)


def read_value(word):
    if not 1 <= len(word) <= LONGEST_VALUE:
        return None
    if all([sign in LETTERS or sign in DIGITS for sign in word]):
        return word
    return None


def read_act(line):
    words = line.split(" ")
    form = FORMS.get(words[0])
    if form is None or len(words) != 1 + len(form):
        return None
    thing = read_thing(words[1])
    if thing is None:
        return None
    if form == "T":
        return (words[0], thing, None)
    other = read_value(words[2]) if form == "TV" else read_thing(words[2])
    if other is None or other == thing:
        return None
    return (words[0], thing, other)


class Reading:
    # The wrong line always stands right behind the acts that were read: so does a thirteenth act,
    # what isn't ended by byte 10, and the line 1 of a text without acts.
    def __init__(self, acts, is_right):
        self.acts = acts
        self.wrong_line = 0 if is_right else len(acts) + 1


def read_text(text):
    lines = "".join([sign_of(byte) for byte in text]).split("\n")
    acts = []
    for line in lines[:-1]:
        act = read_act(line)
        if act is None or len(acts) == MOST_ACTS:
            return Reading(acts, False)
        acts.append(act)
    return Reading(acts, len(acts) > 0 and lines[-1] == "")
