"""missing: the numbers of a device that a place hasn't heard of."""

import unittest

from tests.helper import clear, import_text, last, look, missing, scan, send


def told_numbers(*numbers, d=1, p=0):
    """Scans and looks by turns, with these numbers."""
    return [(scan, look)[k % 2](d=d, number=number, p=p) for k, number in enumerate(numbers)]


class Missing(unittest.TestCase):
    def test_a_device_that_the_place_knows_nothing_of(self):
        self.assertEqual(last(missing()), [0, 0])
        self.assertEqual(last(*told_numbers(5, d=2), *told_numbers(5, p=1), missing()), [0, 0])

    def test_none_missing(self):
        for numbers in ((1,), (1, 2), (3, 1, 2), tuple(range(1, 101))):
            self.assertEqual(last(*told_numbers(*numbers), missing()), [0, 0])

    def test_some(self):
        self.assertEqual(last(*told_numbers(2), missing()), [1, 1, 1])
        self.assertEqual(last(*told_numbers(5), missing()), [4, 4, 1, 2, 3, 4])
        self.assertEqual(last(*told_numbers(1, 3), missing()), [1, 1, 2])
        self.assertEqual(last(*told_numbers(9, 2, 6, 5), missing()), [5, 5, 1, 3, 4, 7, 8])

    def test_numbers_of_scans_and_of_looks_count(self):
        self.assertEqual(last(scan(number=2), look(number=4), missing()), [2, 2, 1, 3])
        self.assertEqual(last(look(number=2), scan(number=4), missing()), [2, 2, 1, 3])

    def test_a_number_of_several_facts_counts_once(self):
        told = [scan(number=4), scan(number=4, kind=1), look(number=4), look(number=2), scan(number=2)]
        self.assertEqual(last(*told, missing()), [2, 2, 1, 3])

    def test_settings_do_not_part_the_numbers(self):
        self.assertEqual(last(scan(number=1, setting=1), scan(number=3, setting=2), missing()), [1, 1, 2])

    def test_49_50_and_51(self):
        for greatest in (50, 51, 52):
            wanted = list(range(1, greatest))[:50]
            answer = last(*told_numbers(greatest), missing())
            self.assertEqual(answer, [greatest - 1, len(wanted)] + wanted)

    def test_more_than_50(self):
        wanted = list(range(1, 51))
        self.assertEqual(last(*told_numbers(100), missing()), [99, 50] + wanted)
        self.assertEqual(last(*told_numbers(9999), missing()), [9998, 50] + wanted)
        wanted = [2, 4] + list(range(6, 54))
        self.assertEqual(last(*told_numbers(1, 3, 5, 70, 9999), missing()), [9994, 50] + wanted)

    def test_the_row_ends_far_behind(self):
        told = told_numbers(*range(1, 99), 200)
        self.assertEqual(last(*told, missing()), [101, 50] + list(range(99, 149)))

    def test_each_device_and_each_place_has_its_own(self):
        told = [scan(d=d, p=p, number=d + 10 * p + 2) for d in range(8) for p in (0, 1, 2)]
        for d in range(8):
            for p in (0, 1, 2):
                wanted = list(range(1, d + 10 * p + 2))
                self.assertEqual(last(*told, missing(p, d)), [len(wanted), len(wanted)] + wanted)

    def test_what_was_sent_and_imported_counts(self):
        told = [scan(number=2), import_text("D1 N0005 E0 T00000 = T00000"), send(0, 1)]
        self.assertEqual(last(*told, missing(1)), [3, 3, 1, 3, 4])
        self.assertEqual(last(*told, clear(), missing(1)), [0, 0])


if __name__ == "__main__":
    unittest.main()
