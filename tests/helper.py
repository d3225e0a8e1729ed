"""What the tests share: calls by their names, and answers parted call by call."""

from scanplaces.places import answers

FAR = 10 ** 18
KINDS = ("PST", "ARR", "LFT", "OUT", "ATT", "HLD", "DLV", "RET", "CIN", "COT")

HERE = 2
DEVICE = 4

# For each state: the kinds of a way to it, all at one office, none odd; and the attempts on it.
WAYS = {
    0: ((), 0),
    1: ((0,), 0),
    2: ((0, 2), 0),
    3: ((0, 3), 0),
    4: ((0, 3, 4, 5), 1),
    5: ((0, 6), 0),
    6: ((0, 6), 0),
    7: ((0, 8), 0),
    8: ((0, 7), 0),
    9: ((0, 7), 0),
}


def clear():
    return [0]


def scan(i=7, kind=0, office=0, signature=0, p=0, d=1, number=1, setting=0, clock=0):
    return [1, p, d, number, setting, clock, i, kind, office, signature]


def look(clock=0, time=0, p=0, d=1, number=1, setting=0):
    return [2, p, d, number, setting, clock, time]


def send(a, b, k=0):
    return [3, a, b, k]


def state(p=0, i=7):
    return [4, p, i]


def history(p=0, i=7):
    return [5, p, i]


def time(clock, p=0, d=1, setting=0):
    return [6, p, d, setting, clock]


def clashes(p=0):
    return [7, p]


def since(k, p=0):
    return [8, p, k]


def export(form=0, i=0, p=0):
    return [9, p, i, form]


def bytes_of(text):
    """The numbers of a text; a list of numbers stays as it is."""
    return list(text.encode("latin-1")) if isinstance(text, str) else list(text)


def import_text(text, form=0, p=0):
    numbers = bytes_of(text)
    return [10, p, form, len(numbers)] + numbers


def convert(text, form=0):
    numbers = bytes_of(text)
    return [11, form, len(numbers)] + numbers


def same(a=0, b=1):
    return [12, a, b]


def signed(p=0, i=7):
    return [13, p, i]


def missing(p=0, d=1):
    return [14, p, d]


def at(office=0, p=0):
    return [15, p, office]


def sign(i=7, d=1, number=1):
    return [16, i, d, number]


def differ(a=0, b=1):
    return [17, a, b]


def counts(p=0):
    return [18, p]


def good(i, d, number, more=0):
    """A good signature: the least one, or one of the greater ones."""
    return ((i + 3 * d + 5 * number) % 97 or 97) + 97 * more


def ask(*calls):
    """The answers of these calls, each a list without its count."""
    given = answers([value for call in calls for value in call])
    parted = []
    start = 0
    while start < len(given):
        end = start + 1 + given[start]
        parted.append(given[start + 1:end])
        start = end
    if start != len(given) or len(parted) != len(calls) or [] in parted:
        raise AssertionError(f"{len(calls)} calls have the answers {given}")
    return parted


def last(*calls):
    """The answer of the last of these calls."""
    return ask(*calls)[-1]


def rows(answer, width):
    """The rows of such a width in an answer of a count and one row."""
    count, length = answer[:2]
    row = answer[2:]
    if length != len(row) or length != count * width:
        raise AssertionError(f"not {count} times {width} numbers: {answer}")
    return [tuple(row[k:k + width]) for k in range(0, length, width)]


def scans_of(*calls):
    """The scans that a history, the last of these calls, tells."""
    return rows(last(*calls), 7)


def text_of(*calls):
    """The count and the text that an export or a convert, the last of these calls, tells."""
    answer = last(*calls)
    if answer[1] != len(answer) - 2:
        raise AssertionError(f"a wrong length ahead of the text: {answer}")
    return answer[0], bytes(answer[2:]).decode("ascii")


def all_texts(*calls):
    """The texts of all that the three places know behind these calls."""
    return [text_of(*calls, export(0, p=p))[1] for p in (0, 1, 2)]


def many(how_many, p=0, d=1, first=1, i=7):
    """So many calls that each tell an unlike scan."""
    return [scan(i=i, p=p, d=d, number=first + k) for k in range(how_many)]


def way_to(wanted, i=7, office=HERE):
    """Scans of an item behind which it stands in this state, at this office."""
    calls = []
    for k, kind in enumerate(WAYS[wanted][0]):
        signs = wanted in (6, 9) and kind in (6, 7)
        signature = good(i, DEVICE, k + 1) if signs else 0
        told = scan(i=i, kind=kind, office=office, signature=signature, d=DEVICE, number=k + 1, clock=k)
        calls.append(told)
    return calls
