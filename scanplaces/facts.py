"""Facts: what devices tell, each one a tuple of whole numbers.

A scan is (device, number, setting, clock, item, kind, office, signature),
a look is (device, number, setting, clock, time).
Their lengths differ, so a scan is never the same fact as a look.
"""

from scanplaces.ranges import all_in_range

# The ranges of a fact's numbers, in their order.
SCAN_NUMBERS = ("device", "number", "setting", "clock", "item", "kind", "office", "signature")
LOOK_NUMBERS = ("device", "number", "setting", "clock", "time")


def is_fact(numbers):
    """Whether these numbers are as many as a scan or a look has, each in its range."""
    if len(numbers) == len(SCAN_NUMBERS):
        return all_in_range(list(SCAN_NUMBERS), numbers)
    return len(numbers) == len(LOOK_NUMBERS) and all_in_range(list(LOOK_NUMBERS), numbers)


def is_look(fact):
    """Whether the fact is a look at a clock, and not a scan."""
    return len(fact) == 5


def clashing(facts):
    """Each (device, number) that stands for more than one of these unlike facts, rising."""
    how_many = {}
    for fact in facts:
        named = fact[:2]
        how_many[named] = how_many.get(named, 0) + 1
    return sorted([named for named in how_many if how_many[named] > 1])


def numbers_missing(facts, device):
    """The numbers below the greatest that the facts have of a device, less those they have, rising."""
    known = {}
    for fact in facts:
        if fact[0] == device:
            known[fact[1]] = True
    return [number for number in range(1, max(list(known), default=0)) if number not in known]
