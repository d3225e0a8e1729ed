"""at: the items that lie at an office."""

import unittest

from tests.helper import HERE, WAYS, at, clear, last, look, many, rows, scan, send, state, way_to


def items_at(*told, office=HERE, p=0):
    return [row[0] for row in rows(last(*told, at(office, p)), 1)]


class At(unittest.TestCase):
    def test_nothing_known(self):
        for office in range(6):
            self.assertEqual(last(at(office)), [0, 0])
            self.assertEqual(last(look(), at(office)), [0, 0])

    def test_the_states_1_4_and_7_and_each_other_one(self):
        for wanted in WAYS:
            for office in range(6):
                told = way_to(wanted, office=office)
                self.assertEqual(last(*told, state())[0], wanted)
                items = [7] if wanted in (1, 4, 7) else []
                self.assertEqual(items_at(*told, office=office), items, wanted)

    def test_all_states_together(self):
        told = []
        for wanted in WAYS:
            told += way_to(wanted, i=90 - wanted)
        self.assertEqual(last(*told, at(HERE)), [3, 3, 83, 86, 89])

    def test_another_office(self):
        for wanted in (1, 4, 7):
            for office in range(6):
                self.assertEqual(items_at(*way_to(wanted), office=office), [7] if office == HERE else [])

    def test_at_the_last_office_and_not_at_those_before(self):
        told = [scan(office=1), scan(kind=2, office=1, number=2, clock=1), scan(kind=1, office=3, number=3, clock=2)]
        for k, where in ((1, 1), (2, None), (3, 3)):
            for office in range(6):
                self.assertEqual(items_at(*told[:k], office=office), [7] if office == where else [])

    def test_items_of_which_nothing_is_known_are_not_at_office_0(self):
        self.assertEqual(items_at(scan(i=5), office=0), [5])

    def test_items_rise(self):
        told = [scan(i=i, office=5, number=i) for i in (50, 99, 2, 10, 1, 9)]
        self.assertEqual(last(*told, at(5)), [6, 6, 1, 2, 9, 10, 50, 99])
        self.assertEqual(last(*told[::-1], at(5)), [6, 6, 1, 2, 9, 10, 50, 99])

    def test_an_item_scanned_more_than_once_is_told_once(self):
        self.assertEqual(last(*many(100), at(0)), [1, 1, 7])

    def test_odd_scans_count(self):
        self.assertEqual(items_at(scan(kind=5, office=4), office=4), [7])
        self.assertEqual(items_at(scan(), scan(kind=9, office=4, number=2, clock=1), office=4), [7])

    def test_the_order_of_the_history_counts(self):
        told = [scan(kind=2, number=2, clock=20), scan(number=1, clock=10)]
        self.assertEqual(items_at(*told, office=0), [])
        self.assertEqual(items_at(*told, look(0, 100), look(15, 50), office=0), [7])

    def test_each_place_has_its_own(self):
        told = [scan(i=4, p=0), scan(i=5, p=1), send(1, 2)]
        for p, wanted in ((0, [4]), (1, [5]), (2, [5])):
            self.assertEqual(items_at(*told, office=0, p=p), wanted)
            self.assertEqual(items_at(*told, clear(), office=0, p=p), [])

    def test_99_items(self):
        told = [scan(i=i, number=i) for i in range(1, 100)]
        self.assertEqual(items_at(*told, office=0), list(range(1, 100)))


if __name__ == "__main__":
    unittest.main()
