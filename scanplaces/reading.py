"""Texts read: the facts that their lines tell in the two record forms.

What can't be read as a number is -1 here: it lies in no range of a fact, and so its line is wrong.
"""

from scanplaces.facts import is_fact
from scanplaces.ranges import in_range
from scanplaces.records import KIND_LETTERS, OFFICE_LETTERS

MOST_BYTES = 4000

# No range of a fact reaches to a number of more digits.
MOST_DIGITS = 6

# All the signs that a text may have without a line being wrong.
SIGNS = "\n 0123456789:;=ABCDEFGHIJKLMNOPQRSTUVWXYZ"


def is_text(numbers):
    """Whether these numbers are bytes, and not too many for a text that's told."""
    return len(numbers) <= MOST_BYTES and all([in_range("byte", number) for number in numbers])


def facts_of(text, form):
    """The facts of the text's lines, in their order, and 0; or none, and the first wrong line."""
    facts = []
    for index, line in enumerate(signs_of(text).split("\n")):
        if line != "":
            if form == 0:
                fact = numbers_of_words(line)
            else:
                fact = numbers_of_parts(line)
            if not is_fact(fact):
                return [], index + 1
            facts.append(tuple(fact))
    return facts, 0


def signs_of(text):
    """The bytes as signs; each one that makes its line wrong anyway is a question mark."""
    sign_by_byte = {}
    for sign in SIGNS:
        sign_by_byte[ord(sign)] = sign
    return "".join([sign_by_byte.get(byte, "?") for byte in text])


def numbers_of_words(line):
    """A fact's numbers, told in form 0; too few if it has not a fact's words."""
    words = line.split(" ")
    if len(words) not in (6, 8):
        return []
    fact = [
        number_behind("D", words[0], 1),
        number_behind("N", words[1], 4),
        number_behind("E", words[2], 1),
        number_behind("T", words[3], 5),
    ]
    if len(words) == 8:
        fact.append(number_behind("I", words[4], 2))
        fact.append(index_among(list(KIND_LETTERS), words[5]))
        fact.append(index_among(list(OFFICE_LETTERS), words[6]))
        fact.append(number_behind("S", words[7], 6))
    elif words[4] == "=":
        fact.append(number_behind("T", words[5], 5))
    return fact


def numbers_of_parts(line):
    """A fact's numbers, told in form 1; none if it has not a fact's parts."""
    parts = line.split(";")
    values = {}
    for part in parts:
        # A part without a colon has no value, one with two has a colon in its value.
        name, colon, value = part.partition(":")
        values[name] = value
    fact = [plain_number(values, name) for name in ("DEV", "SEQ", "EPO", "CLK")]
    if values.get("EVT") == "SYN":
        due = 6
        fact.append(plain_number(values, "TRU"))
    else:
        due = 8 if "SIG" in values else 7
        fact.append(plain_number(values, "ITM"))
        fact.append(index_among(list(KIND_LETTERS), values.get("EVT")))
        fact.append(index_among(list(OFFICE_LETTERS), values.get("OFF")))
        fact.append(signature_among(values))
    # Where none that's due is missing, a part more has a name again, or one that isn't due.
    return fact if len(parts) == due else []


def number_behind(letter, word, digits):
    """The number in a word of this letter and so many digits."""
    if len(word) != 1 + digits or word[0] != letter:
        return -1
    return number_of(word[1:])


def plain_number(values, name):
    """The number that the value of this name tells without zeros before."""
    value = values.get(name, "")
    if len(value) > 1 and value[0] == "0":
        return -1
    return number_of(value)


def signature_among(values):
    """The signature that these values tell: 0 is told by none alone."""
    if "SIG" not in values:
        return 0
    signature = plain_number(values, "SIG")
    return signature if signature != 0 else -1


def number_of(digits):
    """The number that these digits tell."""
    if len(digits) > MOST_DIGITS or not digits.isdigit():
        return -1
    return int(digits)


def index_among(letters, told):
    """At which index the told letters stand among these."""
    for index, known in enumerate(letters):
        if told == known:
            return index
    return -1
