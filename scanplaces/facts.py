"""Facts: what devices tell, each one a tuple of whole numbers.

A scan is (device, number, setting, clock, item, kind, office, signature),
a look is (device, number, setting, clock, time).
Their lengths differ, so a scan is never the same fact as a look.
"""


def is_look(fact):
    """Whether the fact is a look at a clock, and not a scan."""
    return len(fact) == 5


def clashing(facts):
    """Each (device, number) that stands for more than one of these unlike facts, rising."""
    how_many = {}
    for fact in facts:
        named = fact[:2]
        how_many[named] = how_many.get(named, 0) + 1
    return sorted([named for named in how_many if how_many[named] > 1])
