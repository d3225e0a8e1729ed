"""Each number of each call: both ends of its range, one beyond, far beyond."""

import unittest

from tests.helper import FAR, all_texts, ask, last, look, scan, send, text_of
from tests.helper import at, clashes, clear, convert, counts, differ, export, history, import_text
from tests.helper import missing, same, sign, signed, since, state, time

PLACE = (0, 2)
DEVICE = (0, 7)
NUMBER = (1, 9999)
SETTING = (0, 9)
CLOCK = (0, 99999)
ITEM = (1, 99)
TEXT = "D1 N0002 E0 T00000 = T00000"

# A call that isn't refused, and the ranges of its numbers.
RANGES = {
    "scan": (
        scan(),
        (PLACE, DEVICE, NUMBER, SETTING, CLOCK, ITEM, (0, 9), (0, 5), (0, 999999)),
    ),
    "sync": (look(), (PLACE, DEVICE, NUMBER, SETTING, CLOCK, (0, 99999))),
    "send": (send(0, 2), ((0, 1), PLACE, (0, 100))),
    "state": (state(), (PLACE, ITEM)),
    "history": (history(), (PLACE, ITEM)),
    "time": (time(5), (PLACE, DEVICE, SETTING, CLOCK)),
    "clashes": (clashes(), (PLACE,)),
    "since": (since(1), (PLACE, (0, 100))),
    "export": (export(), (PLACE, (0, 99), (0, 1))),
    "import_text": (import_text(TEXT), (PLACE, (0, 1))),
    "convert": (convert(TEXT), ((0, 1),)),
    "same": (same(), (PLACE, PLACE)),
    "signed": (signed(), (PLACE, ITEM)),
    "missing": (missing(), (PLACE, DEVICE)),
    "at": (at(), (PLACE, (0, 5))),
    "sign": (sign(), (ITEM, DEVICE, NUMBER)),
    "differ": (differ(), (PLACE, PLACE)),
    "counts": (counts(), (PLACE,)),
}

# The calls that have a text behind their numbers.
WITH_TEXT = ("import_text", "convert")

# Something to lose, at each of the places.
KNOWN = (
    scan(p=0, number=40),
    scan(p=1, number=50),
    look(70, 80, p=2, number=60),
    scan(p=2, number=61),
)


def with_number(call, index, value):
    """The call with another number at this index (0 is the first behind the call's own)."""
    return call[:index + 1] + [value] + call[index + 2:]


class Ranges(unittest.TestCase):
    def test_each_call_has_as_many_ranges_as_numbers(self):
        self.assertEqual([call[0] for call, ranges in RANGES.values()], list(range(1, 19)))
        for name, (call, ranges) in RANGES.items():
            text = 1 + len(TEXT) if name in WITH_TEXT else 0
            self.assertEqual(len(call), 1 + len(ranges) + text, name)

    def test_both_ends_are_in_the_range(self):
        for name, (call, ranges) in RANGES.items():
            for index, ends in enumerate(ranges):
                for value in ends:
                    if name == "send" and index == 1:
                        continue
                    with self.subTest(call=name, index=index, value=value):
                        answer = last(*KNOWN, with_number(call, index, value))
                        self.assertGreaterEqual(answer[0], 0)

    def test_send_takes_each_two_unlike_places(self):
        for a in (0, 1, 2):
            for b in (0, 1, 2):
                if a != b:
                    self.assertGreater(last(*KNOWN, send(a, b))[0], 0)

    def test_one_beyond_and_far_beyond_are_refused_and_change_nothing(self):
        before = all_texts(*KNOWN)
        for name, (call, ranges) in RANGES.items():
            for index, (least, greatest) in enumerate(ranges):
                if name == "send" and index == 0:
                    greatest = 2
                for value in (least - 1, greatest + 1, -FAR, FAR):
                    with self.subTest(call=name, index=index, value=value):
                        refused = with_number(call, index, value)
                        self.assertEqual(last(*KNOWN, refused), [-1])
                        self.assertEqual(all_texts(*KNOWN, refused), before)

    def test_all_numbers_out_of_their_ranges_are_one_refusal(self):
        before = all_texts(*KNOWN)
        for name, (call, ranges) in RANGES.items():
            for value in (-1, 10 ** 6, -FAR, FAR):
                with self.subTest(call=name, value=value):
                    refused = call[:1] + [value] * len(ranges) + call[1 + len(ranges):]
                    self.assertEqual(last(*KNOWN, refused), [-1])
                    self.assertEqual(all_texts(*KNOWN, refused), before)

    def test_calls_behind_a_refusal_are_answered(self):
        self.assertEqual(
            ask(scan(p=3), scan(), look(time=-1), state(), send(0, 0), clear()),
            [[-1], [1, 1], [-1], [1, 0, 0, 0], [-1], [0]],
        )


class Ends(unittest.TestCase):
    """The numbers at the ends of their ranges are kept as they were told."""

    def test_scan_with_the_least_of_all(self):
        least = [1, 0, 0, 1, 0, 0, 1, 0, 0, 0]
        self.assertEqual(text_of(least, export()), (1, "D0 N0001 E0 T00000 I01 PST A S000000"))

    def test_scan_with_the_greatest_of_all(self):
        greatest = [1, 2, 7, 9999, 9, 99999, 99, 9, 5, 999999]
        self.assertEqual(
            text_of(greatest, export(p=2)), (1, "D7 N9999 E9 T99999 I99 COT F S999999")
        )

    def test_look_with_the_least_of_all(self):
        self.assertEqual(text_of([2, 0, 0, 1, 0, 0, 0], export()), (1, "D0 N0001 E0 T00000 = T00000"))

    def test_look_with_the_greatest_of_all(self):
        greatest = [2, 2, 7, 9999, 9, 99999, 99999]
        self.assertEqual(text_of(greatest, export(p=2)), (1, "D7 N9999 E9 T99999 = T99999"))


if __name__ == "__main__":
    unittest.main()
