"""state: how an item stands, and how many of its scans are odd."""

import unittest

from tests.helper import DEVICE, HERE, WAYS, good, history, last, look
from tests.helper import scan, scans_of, since, state, way_to

AWAY = 3
FITTING = {0: (0, 1), 1: (2, 3, 5, 6, 7, 8), 2: (1,), 3: (4, 5, 6), 4: (3, 6, 7), 5: (), 7: (9,), 8: ()}
BEHIND = {0: 1, 1: 1, 2: 2, 3: 3, 4: 3, 5: 4, 6: 5, 7: 8, 8: 7, 9: 1}
BEHIND_SIGNED = dict(BEHIND)
BEHIND_SIGNED[6] = 6
BEHIND_SIGNED[7] = 9


class Ways(unittest.TestCase):
    def test_nothing_known(self):
        self.assertEqual(last(state()), [0, 0, 0, 0])
        self.assertEqual(last(scan(i=8), look(), scan(p=1), state()), [0, 0, 0, 0])

    def test_each_state_is_reached(self):
        for wanted, (kinds, attempts) in WAYS.items():
            office = HERE if kinds else 0
            self.assertEqual(last(*way_to(wanted), state()), [wanted, office, attempts, 0])


class Steps(unittest.TestCase):
    """Each kind in each state, at the same and at another office, without and with signatures."""

    def check(self, before, kind, office, signature, signs):
        way = way_to(before)
        told = scan(kind=kind, office=office, signature=signature, d=DEVICE, number=50, clock=100)
        attempts = WAYS[before][1]
        if before in (6, 9):
            expected, odd = [before, HERE, attempts], 1
        else:
            fits = kind in FITTING[before] and (kind in (0, 1) or office == HERE)
            odd = 0 if fits and (signs or signature == 0) else 1
            behind = BEHIND_SIGNED if signs else BEHIND
            expected = [behind[kind], office, attempts + (1 if kind == 4 else 0)]
        with self.subTest(before=before, kind=kind, office=office, signature=signature):
            self.assertEqual(last(*way, told, state()), expected + [odd])
            marks = [row[6] for row in scans_of(*way, told, history())]
            self.assertEqual(marks, [0] * len(way) + [odd])

    def check_all(self, signature, signs):
        for before in WAYS:
            for kind in range(10):
                for office in (HERE, AWAY, 0):
                    self.check(before, kind, office, signature, signs)

    def test_without_a_signature(self):
        self.check_all(0, False)

    def test_with_a_good_signature(self):
        self.check_all(good(7, DEVICE, 50), True)

    def test_with_a_signature_that_is_not_good(self):
        self.check_all(good(7, DEVICE, 50) + 1, False)


class Believed(unittest.TestCase):
    def test_attempts_are_counted_whether_they_fit_or_not(self):
        kinds = (4, 4, 1, 4, 0, 3, 4, 4)
        told = [scan(kind=kind, number=k + 1, clock=k) for k, kind in enumerate(kinds)]
        self.assertEqual([row[6] for row in scans_of(*told, history())], [1, 0, 1, 1, 1, 0, 0, 0])
        self.assertEqual(last(*told, state()), [3, 0, 5, 4])

    def test_attempts_stay_over_deliveries_and_returns_without_a_signature(self):
        kinds = (0, 3, 4, 6, 0, 3, 4, 5, 7, 0)
        told = [scan(kind=kind, number=k + 1, clock=k) for k, kind in enumerate(kinds)]
        self.assertEqual(last(*told, state()), [1, 0, 2, 2])

    def test_a_whole_way_with_customs(self):
        steps = ((0, 1), (2, 1), (1, 4), (8, 4), (9, 4), (2, 4), (1, 5), (3, 5), (4, 5), (5, 5), (3, 5), (6, 5))
        told = [scan(kind=kind, office=office, number=k + 1, clock=k) for k, (kind, office) in enumerate(steps)]
        self.assertEqual(last(*told, state()), [5, 5, 1, 0])

    def test_an_odd_scan_moves_the_item(self):
        told = [scan(office=1), scan(kind=2, office=3, number=2, clock=1), scan(kind=1, office=4, number=3, clock=2)]
        self.assertEqual(last(*told[:2], state()), [2, 3, 0, 1])
        self.assertEqual(last(*told, state()), [1, 4, 0, 1])

    def test_the_order_of_the_history_counts(self):
        told = [scan(kind=2, number=2, clock=20), scan(number=1, clock=10)]
        self.assertEqual(last(*told, state()), [2, 0, 0, 0])
        self.assertEqual(last(*told, look(0, 100), look(15, 50), state()), [1, 0, 0, 2])


class Signatures(unittest.TestCase):
    def signed_state(self, signature, i=7, d=2, number=4):
        told = scan(i=i, kind=6, signature=signature, d=d, number=number)
        return last(scan(i=i, number=9999, d=0), told, state(i=i))

    def test_good_signatures(self):
        for signature in (33, 33 + 97, 33 + 97 * 2, 33 + 97 * 10308):
            self.assertEqual(self.signed_state(signature), [6, 0, 0, 0])

    def test_signatures_that_are_not_good(self):
        for signature in (1, 32, 34, 97, 98, 129, 131, 999999):
            self.assertEqual(self.signed_state(signature), [5, 0, 0, 1])

    def test_none_is_not_odd(self):
        self.assertEqual(self.signed_state(0), [5, 0, 0, 0])

    def test_0_is_not_good_even_where_0_is_due(self):
        # 71 + 6 + 20 is 97: modulo 97 it's 0.
        self.assertEqual(self.signed_state(0, i=71), [5, 0, 0, 0])
        self.assertEqual(self.signed_state(97, i=71), [6, 0, 0, 0])
        self.assertEqual(self.signed_state(970, i=71), [6, 0, 0, 0])
        self.assertEqual(self.signed_state(96, i=71), [5, 0, 0, 1])

    def test_item_device_and_number_count(self):
        for i, d, number in ((1, 0, 1), (99, 7, 9999), (40, 5, 1000), (97, 1, 2), (2, 7, 1)):
            due = (i + 3 * d + 5 * number) % 97
            for signature in range(1, 98):
                expected = [6, 0, 0, 0] if signature % 97 == due else [5, 0, 0, 1]
                self.assertEqual(self.signed_state(signature, i, d, number), expected)

    def test_behind_a_signed_delivery_nothing_changes(self):
        self.check_nothing_changes(6, 6)

    def test_behind_a_signed_return_nothing_changes(self):
        self.check_nothing_changes(7, 9)

    def check_nothing_changes(self, kind, signed):
        told = [scan(office=1), scan(kind=3, office=1, number=2, clock=1), scan(kind=5, office=1, number=3, clock=2)]
        told.append(scan(kind=kind, office=1, number=4, clock=3, signature=good(7, 1, 4)))
        later = []
        for k in range(10):
            signature = (0, 1, good(7, 1, 5 + k))[k % 3]
            later.append(scan(kind=k, office=k % 6, number=5 + k, clock=4 + k, signature=signature))
        self.assertEqual(last(*told, state()), [signed, 1, 0, 0])
        self.assertEqual(last(*told, *later, state()), [signed, 1, 0, 10])
        self.assertEqual([row[6] for row in scans_of(*told, *later, history())], [0] * 4 + [1] * 10)

    def test_a_good_signature_of_another_kind_ends_nothing(self):
        for kind in (0, 1, 2, 3, 4, 5, 8, 9):
            told = [scan(kind=kind, signature=good(7, 1, 1)), scan(number=2, clock=1)]
            self.assertEqual(last(*told, state())[0], 1, kind)
            self.assertEqual(last(*told, since(0)), [1, 1, 7])

    def test_a_delivery_that_is_odd_by_its_office_is_signed_all_the_same(self):
        told = [scan(office=0), scan(kind=6, office=2, d=2, number=4, clock=1, signature=33)]
        self.assertEqual(last(*told, state()), [6, 2, 0, 1])


if __name__ == "__main__":
    unittest.main()
