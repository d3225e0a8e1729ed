"""What the three places know."""

MOST_FACTS = 100


class Knowledge:
    """The facts of each place, each once, in the order in which the place heard of them."""

    def __init__(self):
        self.forget()

    def forget(self):
        """From here on no place knows anything."""
        # A dict keeps the order in which its keys came, and finds a known fact at once.
        self.known = [{}, {}, {}]

    def facts_at(self, place):
        """The facts that the place knows, in the order in which it heard of them."""
        return list(self.known[place])

    def learn(self, place, told):
        """Tell facts to a place: [how many are new, how many it knows then], or the refusal [-3]."""
        known = self.known[place]
        fresh = {}
        for fact in told:
            if fact not in known:
                fresh[fact] = True
        if len(known) + len(fresh) > MOST_FACTS:
            return [-3]
        for fact in fresh:
            known[fact] = True
        return [len(fresh), len(known)]
