"""The calls on the three places, and their answers, as lists of whole numbers.

An answer is what a call answers, number by number, each row with its length ahead.
A refusal is a list of one number below 0.
"""

from scanplaces.clocks import looks_by_clock, put_right
from scanplaces.facts import clashing, is_look
from scanplaces.histories import histories
from scanplaces.knowledge import Knowledge
from scanplaces.ranges import all_in_range
from scanplaces.records import text_of
from scanplaces.standing import standing_behind, standing_otherwise


def counted_row(count, row):
    """A count, then a row with its length ahead."""
    return [count, len(row)] + row


def answer_clear(knowledge, values):
    """No place knows anything from here on."""
    knowledge.forget()
    return [0]


def answer_told(knowledge, values):
    """Tell one fact, a scan or a look, to a place."""
    return knowledge.learn(values[0], [tuple(values[1:])])


def answer_send(knowledge, values):
    """Tell all that one place knows, but its first facts, to another."""
    sender, receiver, first = values
    if sender == receiver:
        return [-1]
    return knowledge.learn(receiver, knowledge.facts_at(sender)[first:])


def answer_state(knowledge, values):
    """How an item stands at a place."""
    place, item = values
    history = histories(knowledge.facts_at(place)).get(item, [])
    standing = standing_behind(item, history)
    return [standing.state, standing.office, standing.attempts, len(standing.odd_places)]


def answer_history(knowledge, values):
    """The scans of an item at a place, in the order of its history."""
    place, item = values
    history = histories(knowledge.facts_at(place)).get(item, [])
    odd_places = standing_behind(item, history).odd_places
    row = []
    for index, scan in enumerate(history):
        row.extend(list(scan[:6]))
        row.append(1 if index in odd_places else 0)
    return counted_row(len(history), row)


def answer_time(knowledge, values):
    """The time put right of what a device's clock showed, and by how many looks."""
    place, device, setting, clock = values
    looks = looks_by_clock(knowledge.facts_at(place)).get((device, setting), [])
    return [0, put_right(looks, clock), len(looks)]


def answer_clashes(knowledge, values):
    """The devices' numbers that stand for more than one fact at a place."""
    clashes = clashing(knowledge.facts_at(values[0]))
    row = []
    for device, number in clashes:
        row.extend([device, number])
    return counted_row(len(clashes), row)


def answer_since(knowledge, values):
    """The items that stand otherwise at a place than by its first facts alone."""
    place, first = values
    facts = knowledge.facts_at(place)
    items = standing_otherwise(facts, facts[:first])
    return counted_row(len(items), items)


def answer_export(knowledge, values):
    """All facts of a place, or an item's scans and all looks, as a text."""
    place, item, form = values
    facts = knowledge.facts_at(place)
    if item != 0:
        facts = [fact for fact in facts if is_look(fact) or fact[4] == item]
    return counted_row(len(facts), text_of(facts, form))


# At the index of each call's number: what answers it, and the ranges of its numbers.
CALLS = (
    (answer_clear, ()),
    (answer_told, (
        "place", "device", "number", "setting", "clock", "item", "kind", "office", "signature",
    )),
    (answer_told, ("place", "device", "number", "setting", "clock", "time")),
    (answer_send, ("place", "place", "first facts")),
    (answer_state, ("place", "item")),
    (answer_history, ("place", "item")),
    (answer_time, ("place", "device", "setting", "clock")),
    (answer_clashes, ("place",)),
    (answer_since, ("place", "first facts")),
    (answer_export, ("place", "item or all", "form")),
)


def answers(calls):
    """The answers of all the calls, done in order; no place knows anything at their beginning."""
    knowledge = Knowledge()
    given = []
    start = 0
    while start < len(calls):
        answer, names = CALLS[calls[start]]
        end = start + 1 + len(names)
        values = calls[start + 1:end]
        if all_in_range(names, values):
            numbers = answer(knowledge, values)
        else:
            numbers = [-1]
        given.append(len(numbers))
        given.extend(numbers)
        start = end
    return given
