"""Facts written as texts, in the two record forms."""

from scanplaces.facts import is_look

KIND_LETTERS = ("PST", "ARR", "LFT", "OUT", "ATT", "HLD", "DLV", "RET", "CIN", "COT")
OFFICE_LETTERS = "ABCDEF"


def text_of(facts, form):
    """The facts written in this form, as a list of bytes."""
    if form == 0:
        lines = [line_with_words(fact) for fact in facts]
    else:
        lines = [line_with_names(fact) for fact in facts]
    return [ord(sign) for sign in "\n".join(lines)]


def line_with_words(fact):
    """The fact written in form 0."""
    device, number, setting, clock = fact[:4]
    words = [
        word("D", device, 1),
        word("N", number, 4),
        word("E", setting, 1),
        word("T", clock, 5),
    ]
    if is_look(fact):
        words.append("=")
        words.append(word("T", fact[4], 5))
    else:
        item, kind, office, signature = fact[4:]
        words.append(word("I", item, 2))
        words.append(KIND_LETTERS[kind])
        words.append(OFFICE_LETTERS[office])
        words.append(word("S", signature, 6))
    return " ".join(words)


def word(letter, value, digits):
    """A letter and a number, with zeros before it up to so many digits."""
    return letter + str(value).zfill(digits)


def line_with_names(fact):
    """The fact written in form 1."""
    device, number, setting, clock = fact[:4]
    if is_look(fact):
        parts = [part("EVT", "SYN"), part("TRU", fact[4])]
    else:
        item, kind, office, signature = fact[4:]
        parts = [
            part("EVT", KIND_LETTERS[kind]),
            part("OFF", OFFICE_LETTERS[office]),
            part("ITM", item),
        ]
        if signature != 0:
            parts.append(part("SIG", signature))
    parts.append(part("DEV", device))
    parts.append(part("SEQ", number))
    parts.append(part("EPO", setting))
    parts.append(part("CLK", clock))
    return ";".join(parts)


def part(name, value):
    """A name, a colon, a value."""
    return f"{name}:{value}"
