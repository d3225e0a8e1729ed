"""The calls on the three places, and their answers, as lists of whole numbers.

An answer is what a call answers, number by number, each row with its length ahead.
A refusal is a list of one number below 0.
"""

from scanplaces.clocks import looks_by_clock, put_right
from scanplaces.facts import clashing, is_look, numbers_missing
from scanplaces.histories import histories
from scanplaces.knowledge import Knowledge
from scanplaces.ranges import all_in_range
from scanplaces.reading import facts_of, is_text
from scanplaces.records import text_of
from scanplaces.standing import all_alike, least_good, standing_behind, standing_otherwise, standings

MOST_MISSING_TOLD = 50


def counted_row(count, row):
    """A count, then a row with its length ahead."""
    return [count, len(row)] + row


def history_at(knowledge, place, item):
    """The history of an item at a place."""
    return histories(knowledge.facts_at(place)).get(item, [])


def facts_told(text, form):
    """A text's facts, and []; or, where it can't be read, none, and what is answered then."""
    if not is_text(text):
        return [], [-2]
    facts, wrong_line = facts_of(text, form)
    if wrong_line != 0:
        return [], [0, -1, wrong_line]
    return facts, []


def answer_clear(knowledge, values):
    """No place knows anything from here on."""
    knowledge.forget()
    return [0]


def answer_told(knowledge, values):
    """Tell one fact, a scan or a look, to a place."""
    return knowledge.learn(values[0], [tuple(values[1:])])


def answer_send(knowledge, values):
    """Tell all that one place knows, but its first facts, to another."""
    sender, receiver, first = values
    if sender == receiver:
        return [-1]
    return knowledge.learn(receiver, knowledge.facts_at(sender)[first:])


def answer_state(knowledge, values):
    """How an item stands at a place."""
    place, item = values
    standing = standing_behind(item, history_at(knowledge, place, item))
    return [standing.state, standing.office, standing.attempts, len(standing.odd_places)]


def answer_history(knowledge, values):
    """The scans of an item at a place, in the order of its history."""
    place, item = values
    history = history_at(knowledge, place, item)
    odd_places = standing_behind(item, history).odd_places
    row = []
    for index, scan in enumerate(history):
        row.extend(list(scan[:6]))
        row.append(1 if index in odd_places else 0)
    return counted_row(len(history), row)


def answer_time(knowledge, values):
    """The time put right of what a device's clock showed, and by how many looks."""
    place, device, setting, clock = values
    looks = looks_by_clock(knowledge.facts_at(place)).get((device, setting), [])
    return [0, put_right(looks, clock), len(looks)]


def answer_clashes(knowledge, values):
    """The devices' numbers that stand for more than one fact at a place."""
    clashes = clashing(knowledge.facts_at(values[0]))
    row = []
    for device, number in clashes:
        row.extend([device, number])
    return counted_row(len(clashes), row)


def answer_since(knowledge, values):
    """The items that stand otherwise at a place than by its first facts alone."""
    place, first = values
    facts = knowledge.facts_at(place)
    items = standing_otherwise(facts, facts[:first])
    return counted_row(len(items), items)


def answer_export(knowledge, values):
    """All facts of a place, or an item's scans and all looks, as a text."""
    place, item, form = values
    facts = knowledge.facts_at(place)
    if item != 0:
        facts = [fact for fact in facts if is_look(fact) or fact[4] == item]
    return counted_row(len(facts), text_of(facts, form))


def answer_import_text(knowledge, values):
    """Tell the facts of a text to a place."""
    place, form, text = values
    facts, unread = facts_told(text, form)
    if unread:
        return unread
    return knowledge.learn(place, facts)


def answer_convert(knowledge, values):
    """A text of one form, written in the other."""
    form, text = values
    facts, unread = facts_told(text, form)
    if unread:
        return unread
    return counted_row(len(facts), text_of(facts, 1 - form))


def answer_same(knowledge, values):
    """Whether two places know the same facts, and whether all items stand alike at both."""
    facts = knowledge.facts_at(values[0])
    other_facts = knowledge.facts_at(values[1])
    same_facts = set(facts) == set(other_facts)
    return [1 if same_facts else 0, 1 if all_alike(facts, other_facts) else 0]


def answer_signed(knowledge, values):
    """Who has signed for an item, or against it, at a place."""
    place, item = values
    signer = standing_behind(item, history_at(knowledge, place, item)).signer
    return [1] + list(signer) if signer else [0]


def answer_missing(knowledge, values):
    """The numbers of a device below its greatest one that a place hasn't heard of."""
    place, device = values
    numbers = numbers_missing(knowledge.facts_at(place), device)
    return counted_row(len(numbers), numbers[:MOST_MISSING_TOLD])


def answer_at(knowledge, values):
    """The items that lie at an office, by what a place knows."""
    place, office = values
    by_item = standings(knowledge.facts_at(place))
    items = [item for item in sorted(by_item) if by_item[item].lies_at(office)]
    return counted_row(len(items), items)


def answer_sign(knowledge, values):
    """The least good signature for an item, a device and a number."""
    item, device, number = values
    return [least_good(item, device, number)]


def answer_differ(knowledge, values):
    """How many facts the one place alone knows, and how many the other alone."""
    facts = knowledge.facts_at(values[0])
    other_facts = knowledge.facts_at(values[1])
    return [len(set(facts) - set(other_facts)), len(set(other_facts) - set(facts))]


def answer_counts(knowledge, values):
    """How many facts a place knows, of how many items scans, how many clashes."""
    facts = knowledge.facts_at(values[0])
    return [len(facts), len(histories(facts)), len(clashing(facts))]


# At the index of each call's number: what answers it, and the ranges of its numbers.
CALLS = (
    (answer_clear, ()),
    (answer_told, (
        "place", "device", "number", "setting", "clock", "item", "kind", "office", "signature",
    )),
    (answer_told, ("place", "device", "number", "setting", "clock", "time")),
    (answer_send, ("place", "place", "first facts")),
    (answer_state, ("place", "item")),
    (answer_history, ("place", "item")),
    (answer_time, ("place", "device", "setting", "clock")),
    (answer_clashes, ("place",)),
    (answer_since, ("place", "first facts")),
    (answer_export, ("place", "item or all", "form")),
    (answer_import_text, ("place", "form")),
    (answer_convert, ("form",)),
    (answer_same, ("place", "place")),
    (answer_signed, ("place", "item")),
    (answer_missing, ("place", "device")),
    (answer_at, ("place", "office")),
    (answer_sign, ("item", "device", "number")),
    (answer_differ, ("place", "place")),
    (answer_counts, ("place",)),
)

# import_text and convert: a text stands behind their numbers.
CALLS_WITH_TEXT = (10, 11)


def answers(calls):
    """The answers of all the calls, done in order; no place knows anything at their beginning."""
    knowledge = Knowledge()
    given = []
    start = 0
    while start < len(calls):
        answer, names = CALLS[calls[start]]
        end = start + 1 + len(names)
        values = calls[start + 1:end]
        refused = not all_in_range(names, values)
        if calls[start] in CALLS_WITH_TEXT:
            # How many numbers the text has, then these.
            text = calls[end + 1:end + 1 + calls[end]]
            values.append(text)
            end += 1 + len(text)
        numbers = [-1] if refused else answer(knowledge, values)
        given.append(len(numbers))
        given.extend(numbers)
        start = end
    return given
