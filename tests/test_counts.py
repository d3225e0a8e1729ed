"""counts: how many facts, scanned items and clashes."""

import unittest

from tests.helper import clashes, clear, counts, import_text, last, look, many, scan, send


class Counts(unittest.TestCase):
    def test_with_no_facts(self):
        for p in (0, 1, 2):
            self.assertEqual(last(counts(p)), [0, 0, 0])

    def test_facts_and_items(self):
        told = [scan(i=i, number=k + 1) for k, i in enumerate((4, 9, 99, 1))]
        self.assertEqual(last(*told, counts()), [4, 4, 0])

    def test_items_scanned_more_than_once(self):
        told = [scan(i=i, number=k + 1) for k, i in enumerate((4, 9, 4, 4, 9, 99))]
        self.assertEqual(last(*told, counts()), [6, 3, 0])
        self.assertEqual(last(*many(100), counts()), [100, 1, 0])

    def test_a_fact_told_again_counts_once(self):
        self.assertEqual(last(scan(), scan(), look(number=2), look(number=2), counts()), [2, 1, 0])

    def test_with_looks(self):
        self.assertEqual(last(look(), look(number=2), counts()), [2, 0, 0])
        self.assertEqual(last(look(), scan(number=2), look(number=3), counts()), [3, 1, 0])

    def test_with_clashes(self):
        self.assertEqual(last(scan(), scan(kind=1), counts()), [2, 1, 1])
        self.assertEqual(last(scan(), scan(kind=1), scan(kind=2), counts()), [3, 1, 1])
        self.assertEqual(last(scan(), look(), scan(i=8, d=2), look(d=2), scan(d=3), counts()), [5, 2, 2])
        told = [call for k in range(1, 51) for call in (scan(number=k), look(number=k))]
        self.assertEqual(last(*told, counts()), [100, 1, 50])
        self.assertEqual(last(*told, clashes())[0], 50)

    def test_99_items(self):
        told = [scan(i=i, number=1) for i in range(1, 100)] + [look(number=2)]
        self.assertEqual(last(*told, counts()), [100, 99, 1])

    def test_each_place_has_its_own(self):
        told = [scan(p=0), scan(p=1), look(p=1), send(1, 2), import_text("D1 N0001 E0 T00000 = T00009", p=2)]
        for p, wanted in ((0, [1, 1, 0]), (1, [2, 1, 1]), (2, [3, 1, 1])):
            self.assertEqual(last(*told, counts(p)), wanted)
            self.assertEqual(last(*told, clear(), counts(p)), [0, 0, 0])


if __name__ == "__main__":
    unittest.main()
