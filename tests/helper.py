"""What the tests share: calls by their names, and answers parted call by call."""

from scanplaces.places import answers

FAR = 10 ** 18
KINDS = ("PST", "ARR", "LFT", "OUT", "ATT", "HLD", "DLV", "RET", "CIN", "COT")


def clear():
    return [0]


def scan(i=7, kind=0, office=0, signature=0, p=0, d=1, number=1, setting=0, clock=0):
    return [1, p, d, number, setting, clock, i, kind, office, signature]


def look(clock=0, time=0, p=0, d=1, number=1, setting=0):
    return [2, p, d, number, setting, clock, time]


def send(a, b, k=0):
    return [3, a, b, k]


def state(p=0, i=7):
    return [4, p, i]


def history(p=0, i=7):
    return [5, p, i]


def time(clock, p=0, d=1, setting=0):
    return [6, p, d, setting, clock]


def clashes(p=0):
    return [7, p]


def since(k, p=0):
    return [8, p, k]


def export(form=0, i=0, p=0):
    return [9, p, i, form]


def good(i, d, number, more=0):
    """A good signature: the least one, or one of the greater ones."""
    return ((i + 3 * d + 5 * number) % 97 or 97) + 97 * more


def ask(*calls):
    """The answers of these calls, each a list without its count."""
    given = answers([value for call in calls for value in call])
    parted = []
    start = 0
    while start < len(given):
        end = start + 1 + given[start]
        parted.append(given[start + 1:end])
        start = end
    if start != len(given) or len(parted) != len(calls) or [] in parted:
        raise AssertionError(f"{len(calls)} calls have the answers {given}")
    return parted


def last(*calls):
    """The answer of the last of these calls."""
    return ask(*calls)[-1]


def rows(answer, width):
    """The rows of such a width in an answer of a count and one row."""
    count, length = answer[:2]
    row = answer[2:]
    if length != len(row) or length != count * width:
        raise AssertionError(f"not {count} times {width} numbers: {answer}")
    return [tuple(row[k:k + width]) for k in range(0, length, width)]


def scans_of(*calls):
    """The scans that a history, the last of these calls, tells."""
    return rows(last(*calls), 7)


def text_of(*calls):
    """The count and the text that an export, the last of these calls, tells."""
    answer = last(*calls)
    if answer[1] != len(answer) - 2:
        raise AssertionError(f"a wrong length ahead of the text: {answer}")
    return answer[0], bytes(answer[2:]).decode("ascii")


def all_texts(*calls):
    """The texts of all that the three places know behind these calls."""
    return [text_of(*calls, export(0, p=p))[1] for p in (0, 1, 2)]


def many(how_many, p=0, d=1, first=1, i=7):
    """So many calls that each tell an unlike scan."""
    return [scan(i=i, p=p, d=d, number=first + k) for k in range(how_many)]
