"""How an item stands behind its history, and which of its scans are odd."""

from scanplaces.histories import histories

DELIVERY = 6
RETURN = 7
ATTEMPT = 4
SIGNED_STATES = (6, 9)

# Those in which an item lies at the office where it stands.
LYING_STATES = (1, 4, 7)

# Good signatures of one scan are this far from one another.
SIGNATURE_STEP = 97

# For each kind of scan: the states in which it fits.
FITTING_STATES = ((0,), (0, 2), (1,), (1, 4), (3,), (1, 3), (1, 3, 4), (1, 4), (1,), (7,))

# For each kind of scan: the state behind it, if nobody signs by it.
STATES_BEHIND = (1, 1, 2, 3, 3, 4, 5, 8, 7, 1)


def is_good(signature, item, device, number):
    """Whether the signature is good for a scan of this item by this device with this number."""
    return signature != 0 and signature % SIGNATURE_STEP == remainder_due(item, device, number)


def least_good(item, device, number):
    """The least signature that is good for a scan of this item by this device with this number."""
    remainder = remainder_due(item, device, number)
    # 0 stands for no signature, and so it is never good.
    return remainder if remainder != 0 else SIGNATURE_STEP


def remainder_due(item, device, number):
    """What a good signature leaves, divided by the step."""
    return (item + 3 * device + 5 * number) % SIGNATURE_STEP


class Standing:
    """How an item stands; at first nothing is known of it."""

    def __init__(self, item):
        self.item = item
        self.state = 0
        self.office = 0
        self.attempts = 0
        self.scans = 0
        self.odd_places = []
        self.signer = ()

    def believe(self, scan):
        """Go on by the next scan of the item's history."""
        time, kind, office, device, number, signature, setting, clock = scan
        good = is_good(signature, self.item, device, number)
        ended = self.state in SIGNED_STATES
        if ended or not self.fits(kind, office) or (signature != 0 and not good):
            self.odd_places.append(self.scans)
        self.scans += 1
        if ended:
            return
        self.state = STATES_BEHIND[kind]
        self.office = office
        if kind == ATTEMPT:
            self.attempts += 1
        if good and kind in (DELIVERY, RETURN):
            # Each signed state is told by the number behind the unsigned one's.
            self.state += 1
            self.signer = (device, number, signature)

    def fits(self, kind, office):
        """Whether a scan of this kind at this office fits how the item stands."""
        if self.state not in FITTING_STATES[kind]:
            return False
        # Where an item is posted, and to which office it comes, is free.
        return kind < 2 or office == self.office

    def lies_at(self, office):
        """Whether the item lies at this office."""
        return self.office == office and self.state in LYING_STATES

    def whole(self):
        """All in which two standings of one item may differ, as one tuple."""
        return (self.state, self.office, self.attempts, self.odd_places, self.signer)


def standing_behind(item, history):
    """How the item stands behind this history."""
    standing = Standing(item)
    for scan in history:
        standing.believe(scan)
    return standing


def standings(facts):
    """For each item scanned among the facts: how it stands."""
    found = histories(facts)
    by_item = {}
    for item in found:
        by_item[item] = standing_behind(item, found[item])
    return by_item


def standing_otherwise(facts, other_facts):
    """The items scanned among the facts that stand otherwise by the other facts, rising."""
    here = standings(facts)
    there = standings(other_facts)
    items = []
    for item in sorted(here):
        if here[item].whole() != there.get(item, Standing(item)).whole():
            items.append(item)
    return items


def all_alike(facts, other_facts):
    """Whether each item stands alike by the facts and by the other facts."""
    return not standing_otherwise(facts, other_facts) and not standing_otherwise(other_facts, facts)
