"""The time put right: what looks at a clock say of what it shows."""

from scanplaces.facts import is_look


def looks_by_clock(facts):
    """For each (device, setting) with looks among the facts: its unlike (clock, time), rising."""
    found = {}
    for fact in facts:
        if is_look(fact):
            device, number, setting, clock, time = fact
            # Looks that differ in their number alone are alike here; a dict keeps them once.
            unlike = found.setdefault((device, setting), {})
            unlike[(clock, time)] = True
    looks = {}
    for key in found:
        looks[key] = sorted(found[key])
    return looks


def put_right(looks, clock):
    """The time put right of what a clock showed, by the rising (clock, time) of its looks."""
    if not looks:
        return clock
    if clock < looks[0][0]:
        return moved_alike(looks[0], clock)
    if clock >= looks[-1][0]:
        return moved_alike(looks[-1], clock)
    behind = 1
    while looks[behind][0] <= clock:
        behind += 1
    return between(looks[behind - 1], looks[behind], clock)


def moved_alike(look, clock):
    """The time of a clock that is off by as much as it was at this look."""
    shown, time = look
    return clock + time - shown


def between(earlier, later, clock):
    """The time of a clock that goes evenly from one look to the other, rounded down."""
    shown, time = earlier
    shown_later, time_later = later
    return time + (clock - shown) * (time_later - time) // (shown_later - shown)
