"""The ranges of the numbers that calls and facts are made of."""

RANGES = {
    "place": (0, 2),
    "device": (0, 7),
    "number": (1, 9999),
    "setting": (0, 9),
    "clock": (0, 99999),
    "time": (0, 99999),
    "item": (1, 99),
    "item or all": (0, 99),
    "kind": (0, 9),
    "office": (0, 5),
    "signature": (0, 999999),
    "first facts": (0, 100),
    "form": (0, 1),
    "byte": (0, 255),
}


def in_range(name, value):
    """Whether the value lies in the range that bears this name."""
    least, greatest = RANGES[name]
    return least <= value <= greatest


def all_in_range(names, values):
    """Whether each value lies in the range of the name that stands at the same index."""
    for name, value in zip(names, values):
        if not in_range(name, value):
            return False
    return True
