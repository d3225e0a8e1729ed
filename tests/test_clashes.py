"""clashes: devices' numbers that stand for more than one fact."""

import unittest

from tests.helper import clashes, clear, last, look, many, rows, scan, send


def clashing(*told, p=0):
    return rows(last(*told, clashes(p)), 2)


class Clashes(unittest.TestCase):
    def test_none(self):
        self.assertEqual(last(clashes()), [0, 0])
        self.assertEqual(last(*many(100), clashes()), [0, 0])

    def test_two_facts_of_one_device_and_number(self):
        self.assertEqual(last(scan(), scan(kind=1), clashes()), [1, 2, 1, 1])

    def test_a_fact_told_again_is_no_clash(self):
        self.assertEqual(clashing(scan(), scan(), look(number=2), look(number=2)), [])

    def test_three_facts_are_one_clash(self):
        self.assertEqual(clashing(scan(), scan(kind=1), scan(kind=2), scan(number=2)), [(1, 1)])

    def test_scans_and_looks_mixed(self):
        self.assertEqual(clashing(scan(number=8), look(number=8)), [(1, 8)])
        self.assertEqual(clashing(look(1, 1), look(1, 2)), [(1, 1)])

    def test_each_other_number_of_a_fact_makes_a_clash(self):
        for other in (scan(setting=1), scan(clock=1), scan(i=8), scan(kind=1), scan(office=1), scan(signature=1)):
            self.assertEqual(clashing(scan(), other), [(1, 1)])
        for other in (look(setting=1), look(clock=1), look(time=1)):
            self.assertEqual(clashing(look(), other), [(1, 1)])

    def test_unlike_devices_and_numbers_do_not_clash(self):
        self.assertEqual(clashing(scan(d=1, number=2), scan(d=2, number=1), scan(d=2, number=2)), [])

    def test_by_devices_then_numbers(self):
        named = [(7, 1), (2, 9), (0, 500), (2, 10), (2, 1000), (0, 4)]
        told = []
        for d, number in named:
            told += [scan(d=d, number=number), look(d=d, number=number)]
        self.assertEqual(clashing(*told), [(0, 4), (0, 500), (2, 9), (2, 10), (2, 1000), (7, 1)])
        self.assertEqual(clashing(*told[::-1]), clashing(*told))

    def test_each_place_has_its_own(self):
        told = [scan(p=0), scan(p=1, kind=1)]
        self.assertEqual(clashing(*told, p=0), [])
        self.assertEqual(clashing(*told, p=1), [])
        self.assertEqual(clashing(*told, send(0, 1), p=1), [(1, 1)])
        self.assertEqual(clashing(*told, send(0, 1), p=0), [])

    def test_none_behind_clear(self):
        self.assertEqual(clashing(scan(), scan(kind=1), clear()), [])


if __name__ == "__main__":
    unittest.main()
