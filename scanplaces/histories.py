"""The history of each item: its scans in the order of the time put right."""

from scanplaces.clocks import looks_by_clock, put_right
from scanplaces.facts import is_look


def histories(facts):
    """For each item scanned among the facts: its history.

    A scan of it is (time put right, kind, office, device, number, signature, setting, clock),
    so that the order of these tuples is the order of the history.
    """
    looks = looks_by_clock(facts)
    found = {}
    for fact in facts:
        if not is_look(fact):
            device, number, setting, clock, item, kind, office, signature = fact
            time = put_right(looks.get((device, setting), []), clock)
            scan = (time, kind, office, device, number, signature, setting, clock)
            found.setdefault(item, []).append(scan)
    ordered = {}
    for item in found:
        ordered[item] = sorted(found[item])
    return ordered
