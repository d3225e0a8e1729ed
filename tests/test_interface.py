"""How calls lie in the list that is handed in, and answers in the one given back."""

import unittest

from scanplaces.places import answers
from tests.helper import ask, at, bytes_of, clashes, clear, convert, counts, differ, export, good, history
from tests.helper import import_text, last, look, many, missing, same, scan, send, sign, signed, since
from tests.helper import state, text_of, time

TEXT = "D1 N0004 E0 T00009 I07 ARR B S000000"
NAMED_TEXT = "EVT:ARR;OFF:B;ITM:7;DEV:1;SEQ:4;EPO:0;CLK:9"

SOME = [
    *[scan(number=n, i=n % 5 + 1, kind=n % 10, clock=n * 3, d=n % 3) for n in range(1, 30)],
    *[look(n, n * 2, number=n, d=n % 3) for n in range(30, 50)],
    send(0, 1, 10), send(0, 0), send(1, 2), scan(i=100),
    *[state(p, i) for p in (0, 1, 2) for i in (1, 2, 3)],
    history(1, 2), time(35), clashes(2), since(12), export(0), export(1, 3),
    import_text(TEXT), import_text(NAMED_TEXT, 1, 2), import_text("\nx"), import_text([-1]), import_text(TEXT, 2),
    convert(TEXT), convert(NAMED_TEXT, 1), convert("\nx"), convert([256]), convert(TEXT, -1),
    same(), signed(1, 3), missing(), at(3, 1), sign(), differ(0, 2), counts(2),
    clear(), export(),
]

# Each of the 19 calls, and what it answers.
EACH = (
    (scan(), [1, 1]),
    (look(5, 7, number=3), [1, 2]),
    (scan(kind=6, office=0, number=3, clock=20, signature=good(7, 1, 3)), [1, 3]),
    (send(0, 1, 1), [2, 2]),
    (state(), [6, 0, 0, 0]),
    (history(), [2, 14, 2, 0, 0, 1, 1, 0, 0, 22, 6, 0, 1, 3, 25, 0]),
    (time(10), [0, 12, 1]),
    (clashes(), [1, 2, 1, 3]),
    (since(2), [1, 1, 7]),
    (export(0, 9), [1, 27] + bytes_of("D1 N0003 E0 T00005 = T00007")),
    (import_text(TEXT), [1, 4]),
    (convert(TEXT), [1, 43] + bytes_of(NAMED_TEXT)),
    (same(), [0, 0]),
    (signed(), [1, 1, 3, 25]),
    (missing(), [1, 1, 2]),
    (at(1), [0, 0]),
    (sign(7, 2, 4), [33]),
    (differ(), [2, 0]),
    (counts(), [4, 1, 1]),
    (clear(), [0]),
)


def flat(calls):
    return [value for call in calls for value in call]


class Interface(unittest.TestCase):
    def test_each_answer_stands_behind_its_count(self):
        told = [clear(), scan(), scan(), look(number=2), send(0, 1), state(), history(), time(5), since(0)]
        wanted = [1, 0, 2, 1, 1, 2, 0, 1, 2, 1, 2, 2, 2, 2, 4, 1, 0, 0, 0, 9, 1, 7, 0, 0, 0, 1, 1, 0, 0]
        wanted += [3, 0, 5, 1, 3, 1, 1, 7]
        self.assertEqual(answers(flat(told)), wanted)

    def test_clashes_and_export_stand_behind_their_counts(self):
        text = "D1 N0001 E0 T00000 = T00000"
        told = [clashes(), export(), look(), export(), scan(), clashes()]
        wanted = [2, 0, 0, 2, 0, 0, 2, 1, 1, 2 + len(text), 1, len(text)] + [ord(sign) for sign in text]
        wanted += [2, 1, 2, 4, 1, 2, 1, 1]
        self.assertEqual(answers(flat(told)), wanted)

    def test_convert_missing_and_at_stand_behind_their_counts(self):
        wanted = [45, 1, 43] + bytes_of(NAMED_TEXT) + [3, 0, -1, 1, 2, 0, 0, 2, 0, 0, 2, 0, 0]
        self.assertEqual(answers(flat([convert(TEXT), convert("x"), convert(""), missing(), at()])), wanted)
        self.assertEqual(answers(flat([scan(number=3), missing(), at()])), [2, 1, 1, 4, 2, 2, 1, 2, 3, 1, 1, 7])

    def test_answers_without_rows_stand_behind_their_counts(self):
        asked = [import_text(TEXT), import_text("x"), same(), signed(), sign(7, 2, 4), differ(), counts()]
        wanted = [2, 1, 1, 3, 0, -1, 1, 2, 0, 0, 1, 0, 1, 33, 2, 1, 0, 3, 1, 1, 0]
        self.assertEqual(answers(flat(asked)), wanted)

    def test_all_the_19_calls_in_one_list(self):
        self.assertEqual(sorted({call[0] for call, wanted in EACH}), list(range(19)))
        self.assertEqual(ask(*[call for call, wanted in EACH]), [wanted for call, wanted in EACH])

    def test_all_the_19_calls_again_and_again_in_one_list(self):
        given = ask(*[call for call, wanted in EACH] * 20)
        self.assertEqual(len(given), 400)
        self.assertEqual(given, [wanted for call, wanted in EACH] * 20)

    def test_the_same_list_handed_in_twice(self):
        calls = flat([call for call, wanted in EACH])
        kept = list(calls)
        given = answers(calls)
        self.assertEqual(answers(calls), given)
        self.assertEqual(calls, kept)

    def test_texts_that_look_like_calls(self):
        # A text's numbers are its own, whether it's read or not.
        for text in (flat([scan(), clear()]), [-5, 10, 0, 0], [10 ** 18], [0], [1, 0, 1]):
            for ahead in (import_text(text), import_text(text, 1), import_text(text, p=3), convert(text), convert(text, 9)):
                given = ask(scan(i=9), ahead, counts(), state(0, 9))
                self.assertEqual(given[2:], [[1, 1, 0], [1, 0, 0, 0]])

    def test_a_refusal_is_its_number_alone(self):
        refused = [scan(p=3), look(p=3), send(0, 0), state(3), history(3), time(0, p=3)]
        refused += [clashes(3), since(0, p=3), export(p=3), import_text(TEXT, p=3), convert(TEXT, 2)]
        refused += [same(0, 3), signed(3), missing(3), at(6), sign(0), differ(3, 0), counts(3)]
        self.assertEqual(answers(flat(refused)), [1, -1] * 18)
        self.assertEqual(answers(flat([import_text([256]), convert([256])])), [1, -2] * 2)
        full = many(100) + [scan(number=101), look(), import_text(TEXT)]
        self.assertEqual(answers(flat(full))[-6:], [1, -3] * 3)

    def test_what_is_handed_in_stays_as_it_was(self):
        calls = flat(SOME)
        kept = list(calls)
        answers(calls)
        self.assertEqual(calls, kept)

    def test_nothing_is_kept_from_one_time_to_the_next(self):
        calls = flat(SOME)
        given = answers(calls)
        self.assertEqual(answers([1, 0, 1, 1, 0, 0, 7, 0, 0, 0]), [2, 1, 1])
        self.assertEqual(answers([4, 0, 7]), [4, 0, 0, 0, 0])
        self.assertEqual(answers(calls), given)

    def test_what_is_given_back_is_new_each_time(self):
        given = answers(flat(SOME))
        kept = list(given)
        given.clear()
        self.assertEqual(answers(flat(SOME)), kept)

    def test_whole_numbers_and_nothing_else(self):
        given = answers(flat(SOME))
        self.assertIs(type(given), list)
        self.assertEqual({type(value) for value in given}, {int})

    def test_at_its_beginning_no_place_knows_anything(self):
        for p in (0, 1, 2):
            self.assertEqual(ask(state(p), since(0, p), export(p=p)), [[0, 0, 0, 0], [0, 0], [0, 0]])


class Limits(unittest.TestCase):
    """A list of 400 calls at a place that knows 100 facts gets its whole answer."""

    def known(self):
        told = []
        for n in range(1, 76):
            kind = n * 7 % 10
            told.append(scan(i=n % 9 + 1, kind=kind, office=n % 6, d=n % 2, number=n, clock=n * 1331 % 99991))
        for n in range(76, 101):
            told.append(look(n * 1733 % 99989, n * 1471 % 99971, d=n % 2, number=n))
        return told

    def test_400_calls(self):
        known = self.known()
        asked = [export(k % 2, k % 10) for k in range(60)]
        asked += [history(0, k % 9 + 1) for k in range(100)]
        asked += [since(k) for k in range(100)]
        asked += [time(k * 2500, d=k % 2) for k in range(20)]
        asked += [state(0, k % 9 + 1) for k in range(18)] + [clashes(), send(0, 1)]
        self.assertEqual(len(known) + len(asked), 400)
        given = ask(*known, *asked)
        self.assertEqual(given[:100], [[1, k] for k in range(1, 101)])
        self.assertEqual(given[100:], [last(*known, call) for call in asked])

    def test_400_calls_of_since_and_export_of_99_items(self):
        known = [scan(i=n % 99 + 1, number=n, clock=n, signature=999999) for n in range(1, 101)]
        asked = [export(1)] * 60 + [since(0)] * 240
        given = ask(*known, *asked)
        self.assertEqual(given[100:160], [last(*known, export(1))] * 60)
        self.assertEqual(given[160:], [[99, 99] + list(range(1, 100))] * 240)

    def test_400_calls_of_the_later_ones(self):
        known = self.known()
        asked = [convert(TEXT), convert(NAMED_TEXT, 1), convert("x"), convert([256])] * 15
        asked += [import_text(text_of(*known[:60], export(1))[1], 1), import_text(TEXT, p=1)]
        asked += [same(0, k % 3) for k in range(40)] + [differ(1, k % 3) for k in range(40)]
        asked += [signed(0, k % 9 + 1) for k in range(40)] + [missing(0, k % 8) for k in range(40)]
        asked += [at(k % 6) for k in range(40)] + [sign(k + 1, 3, k + 5) for k in range(36)]
        asked += [counts(), counts(1)]
        self.assertEqual(len(known) + len(asked), 400)
        self.assertLessEqual(len(flat(known + asked)), 17000)
        given = ask(*known, *asked)
        self.assertEqual(given[160:162], [[0, 100], [1, 1]])
        told = known + [import_text(TEXT, p=1)]
        self.assertEqual(given[162:], [last(*told, call) for call in asked[62:]])

    def test_300_calls_of_same_of_full_places(self):
        known = [scan(i=n % 99 + 1, number=n, clock=n) for n in range(1, 75)]
        known += [look(n, n * 2, number=n) for n in range(75, 100)]
        told = known + [send(0, 1)]
        self.assertEqual(ask(*told, *[same()] * 300)[100:], [[1, 1]] * 300)

    def test_300_calls_of_missing_with_a_gap_of_almost_all(self):
        told = [look(number=9999 - n) for n in range(100)]
        self.assertEqual(ask(*told, *[missing()] * 300)[100:], [[9899, 50] + list(range(1, 51))] * 300)

    def test_the_longest_texts(self):
        wrong = "\n" * 3999 + "x"
        asked = [import_text(wrong), convert(wrong), import_text("\n" * 4000), import_text("\n" * 4900)]
        self.assertEqual(ask(*asked), [[0, -1, 4000], [0, -1, 4000], [0, 0], [-2]])

    def test_300_histories_of_100_scans(self):
        known = [scan(number=n, clock=n) for n in range(1, 101)]
        given = ask(*known, *[history()] * 300)
        self.assertEqual(given[100:], [last(*known, history())] * 300)
        self.assertEqual(len(given[-1]), 702)


if __name__ == "__main__":
    unittest.main()
