"""How calls lie in the list that is handed in, and answers in the one given back."""

import unittest

from scanplaces.places import answers
from tests.helper import ask, clashes, clear, export, history, last, look, many
from tests.helper import scan, send, since, state, time

SOME = [
    *[scan(number=n, i=n % 5 + 1, kind=n % 10, clock=n * 3, d=n % 3) for n in range(1, 30)],
    *[look(n, n * 2, number=n, d=n % 3) for n in range(30, 50)],
    send(0, 1, 10), send(0, 0), send(1, 2), scan(i=100),
    *[state(p, i) for p in (0, 1, 2) for i in (1, 2, 3)],
    history(1, 2), time(35), clashes(2), since(12), export(0), export(1, 3), clear(), export(),
]


def flat(calls):
    return [value for call in calls for value in call]


class Interface(unittest.TestCase):
    def test_each_answer_stands_behind_its_count(self):
        told = [clear(), scan(), scan(), look(number=2), send(0, 1), state(), history(), time(5), since(0)]
        wanted = [1, 0, 2, 1, 1, 2, 0, 1, 2, 1, 2, 2, 2, 2, 4, 1, 0, 0, 0, 9, 1, 7, 0, 0, 0, 1, 1, 0, 0]
        wanted += [3, 0, 5, 1, 3, 1, 1, 7]
        self.assertEqual(answers(flat(told)), wanted)

    def test_clashes_and_export_stand_behind_their_counts(self):
        text = "D1 N0001 E0 T00000 = T00000"
        told = [clashes(), export(), look(), export(), scan(), clashes()]
        wanted = [2, 0, 0, 2, 0, 0, 2, 1, 1, 2 + len(text), 1, len(text)] + [ord(sign) for sign in text]
        wanted += [2, 1, 2, 4, 1, 2, 1, 1]
        self.assertEqual(answers(flat(told)), wanted)

    def test_a_refusal_is_its_number_alone(self):
        refused = [scan(p=3), look(p=3), send(0, 0), state(3), history(3), time(0, p=3)]
        refused += [clashes(3), since(0, p=3), export(p=3)]
        self.assertEqual(answers(flat(refused)), [1, -1] * 9)
        self.assertEqual(answers(flat(many(100) + [scan(number=101), look()]))[-4:], [1, -3, 1, -3])

    def test_what_is_handed_in_stays_as_it_was(self):
        calls = flat(SOME)
        kept = list(calls)
        answers(calls)
        self.assertEqual(calls, kept)

    def test_nothing_is_kept_from_one_time_to_the_next(self):
        calls = flat(SOME)
        given = answers(calls)
        self.assertEqual(answers([1, 0, 1, 1, 0, 0, 7, 0, 0, 0]), [2, 1, 1])
        self.assertEqual(answers([4, 0, 7]), [4, 0, 0, 0, 0])
        self.assertEqual(answers(calls), given)

    def test_what_is_given_back_is_new_each_time(self):
        given = answers(flat(SOME))
        kept = list(given)
        given.clear()
        self.assertEqual(answers(flat(SOME)), kept)

    def test_whole_numbers_and_nothing_else(self):
        given = answers(flat(SOME))
        self.assertIs(type(given), list)
        self.assertEqual({type(value) for value in given}, {int})

    def test_at_its_beginning_no_place_knows_anything(self):
        for p in (0, 1, 2):
            self.assertEqual(ask(state(p), since(0, p), export(p=p)), [[0, 0, 0, 0], [0, 0], [0, 0]])


class Limits(unittest.TestCase):
    """A list of 400 calls at a place that knows 100 facts gets its whole answer."""

    def known(self):
        told = []
        for n in range(1, 76):
            kind = n * 7 % 10
            told.append(scan(i=n % 9 + 1, kind=kind, office=n % 6, d=n % 2, number=n, clock=n * 1331 % 99991))
        for n in range(76, 101):
            told.append(look(n * 1733 % 99989, n * 1471 % 99971, d=n % 2, number=n))
        return told

    def test_400_calls(self):
        known = self.known()
        asked = [export(k % 2, k % 10) for k in range(60)]
        asked += [history(0, k % 9 + 1) for k in range(100)]
        asked += [since(k) for k in range(100)]
        asked += [time(k * 2500, d=k % 2) for k in range(20)]
        asked += [state(0, k % 9 + 1) for k in range(18)] + [clashes(), send(0, 1)]
        self.assertEqual(len(known) + len(asked), 400)
        given = ask(*known, *asked)
        self.assertEqual(given[:100], [[1, k] for k in range(1, 101)])
        self.assertEqual(given[100:], [last(*known, call) for call in asked])

    def test_400_calls_of_since_and_export_of_99_items(self):
        known = [scan(i=n % 99 + 1, number=n, clock=n, signature=999999) for n in range(1, 101)]
        asked = [export(1)] * 60 + [since(0)] * 240
        given = ask(*known, *asked)
        self.assertEqual(given[100:160], [last(*known, export(1))] * 60)
        self.assertEqual(given[160:], [[99, 99] + list(range(1, 100))] * 240)

    def test_300_histories_of_100_scans(self):
        known = [scan(number=n, clock=n) for n in range(1, 101)]
        given = ask(*known, *[history()] * 300)
        self.assertEqual(given[100:], [last(*known, history())] * 300)
        self.assertEqual(len(given[-1]), 702)


if __name__ == "__main__":
    unittest.main()
