"""signed and sign: who has signed, and which signatures are good."""

import unittest

from tests.helper import WAYS, clear, good, last, look, scan, send, sign, signed, state, way_to


class Signed(unittest.TestCase):
    def test_nobody(self):
        self.assertEqual(last(signed()), [0])
        self.assertEqual(last(look(), scan(), signed()), [0])

    def test_in_each_state(self):
        for wanted in WAYS:
            answer = last(*way_to(wanted), signed())
            self.assertEqual(answer, [1, 4, 2, good(7, 4, 2)] if wanted in (6, 9) else [0], wanted)

    def test_a_good_signature_by_a_delivery_and_by_a_return(self):
        for kind, wanted in ((6, 6), (7, 9)):
            for more in (0, 1, 1000):
                signature = good(7, 3, 12, more)
                told = [scan(office=2), scan(kind=kind, office=2, d=3, number=12, clock=9, signature=signature)]
                self.assertEqual(last(*told, state()), [wanted, 2, 0, 0])
                self.assertEqual(last(*told, signed()), [1, 3, 12, signature])

    def test_a_scan_that_is_odd_signs_all_the_same(self):
        told = [scan(office=0), scan(kind=6, office=2, d=2, number=4, clock=1, signature=33)]
        self.assertEqual(last(*told, signed()), [1, 2, 4, 33])
        self.assertEqual(last(told[1], signed()), [1, 2, 4, 33])

    def test_no_signature(self):
        for kind in (6, 7):
            self.assertEqual(last(scan(), scan(kind=kind, number=2, clock=1), signed()), [0])

    def test_a_signature_that_is_not_good(self):
        for kind in (6, 7):
            for off in (-1, 1, 48, 96, 98):
                told = scan(kind=kind, number=50, clock=1, signature=good(7, 1, 50) + off)
                self.assertEqual(last(scan(), told, signed()), [0])

    def test_one_that_is_good_for_another_item_device_or_number(self):
        for signature in (good(8, 1, 50), good(7, 2, 50), good(7, 1, 51)):
            told = scan(kind=6, number=50, clock=1, signature=signature)
            self.assertEqual(last(scan(), told, signed()), [0])

    def test_a_good_signature_by_another_kind(self):
        for kind in (0, 1, 2, 3, 4, 5, 8, 9):
            self.assertEqual(last(scan(kind=kind, signature=good(7, 1, 1)), signed()), [0])

    def test_scans_behind_the_signed_one_change_nothing(self):
        for kind in (6, 7):
            told = [scan(), scan(kind=kind, number=2, clock=1, signature=good(7, 1, 2))]
            for later in range(10):
                signature = good(7, 5, 60)
                behind = scan(kind=later, d=5, number=60, clock=2, signature=signature)
                self.assertEqual(last(*told, behind, signed()), [1, 1, 2, good(7, 1, 2)])

    def test_a_scan_that_comes_later_and_stands_ahead(self):
        told = [scan(), scan(kind=6, number=2, clock=10, signature=good(7, 1, 2))]
        ahead = scan(kind=6, d=5, number=60, clock=5, signature=good(7, 5, 60))
        self.assertEqual(last(*told, ahead, signed()), [1, 5, 60, good(7, 5, 60)])

    def test_looks_change_who_has_signed(self):
        told = [
            scan(d=0),
            scan(kind=6, d=1, number=2, clock=20, signature=good(7, 1, 2)),
            scan(kind=6, d=2, number=3, clock=30, signature=good(7, 2, 3)),
        ]
        self.assertEqual(last(*told, signed()), [1, 1, 2, good(7, 1, 2)])
        self.assertEqual(last(*told, look(30, 15, d=2), signed()), [1, 2, 3, good(7, 2, 3)])

    def test_unsigned_deliveries_ahead(self):
        told = [scan(), scan(kind=6, number=2, clock=1), scan(kind=7, number=3, clock=2, signature=good(7, 1, 3))]
        self.assertEqual(last(*told, signed()), [1, 1, 3, good(7, 1, 3)])

    def test_each_place_and_each_item_has_its_own(self):
        told = scan(kind=6, p=1, i=9, number=2, signature=good(9, 1, 2))
        for p in (0, 1, 2):
            for i in (8, 9, 10):
                wanted = [1, 1, 2, good(9, 1, 2)] if (p, i) == (1, 9) else [0]
                self.assertEqual(last(told, signed(p, i)), wanted)
        self.assertEqual(last(told, send(1, 2), signed(2, 9)), [1, 1, 2, good(9, 1, 2)])
        self.assertEqual(last(told, clear(), signed(1, 9)), [0])

    def test_device_0_has_signed(self):
        told = scan(kind=6, d=0, number=1, signature=good(7, 0, 1))
        self.assertEqual(last(told, signed()), [1, 0, 1, 12])


class Sign(unittest.TestCase):
    def test_the_document_s_example(self):
        self.assertEqual(last(sign(7, 2, 4)), [33])

    def test_edges(self):
        expected = {
            (1, 0, 1): 6,
            (99, 0, 1): 7,
            (1, 7, 1): 27,
            (1, 0, 9999): 41,
            (99, 7, 1): 28,
            (99, 0, 9999): 42,
            (1, 7, 9999): 62,
            (99, 7, 9999): 63,
        }
        for (i, d, number), wanted in expected.items():
            self.assertEqual((i + 3 * d + 5 * number) % 97, wanted)
            self.assertEqual(last(sign(i, d, number)), [wanted])

    def test_where_the_remainder_is_0(self):
        for i, d, number in ((71, 2, 4), (92, 0, 1), (97 - 26, 7, 1), (2, 0, 19), (97, 0, 97), (97, 0, 97 * 103)):
            self.assertEqual((i + 3 * d + 5 * number) % 97, 0)
            self.assertEqual(last(sign(i, d, number)), [97])

    def test_remainders_1_and_96(self):
        self.assertEqual(last(sign(93, 0, 1)), [1])
        self.assertEqual(last(sign(91, 0, 1)), [96])

    def test_each_item_and_each_device(self):
        for d in range(8):
            for i in range(1, 100):
                number = (i * 101 + d * 37) % 9999 + 1
                least = min([s for s in range(1, 98) if s % 97 == (i + 3 * d + 5 * number) % 97])
                self.assertEqual(last(sign(i, d, number)), [least])

    def test_it_is_the_least_one_by_which_somebody_has_signed(self):
        for i, d, number in ((7, 2, 4), (71, 2, 4), (1, 0, 1), (99, 7, 9999)):
            least = last(sign(i, d, number))[0]
            for signature in range(1, least + 1):
                told = scan(i=i, kind=6, d=d, number=number, signature=signature)
                wanted = [1, d, number, signature] if signature == least else [0]
                self.assertEqual(last(told, signed(0, i)), wanted)

    def test_what_is_known_does_not_count(self):
        self.assertEqual(last(*way_to(6), scan(d=2, number=4), sign(7, 2, 4)), [33])


if __name__ == "__main__":
    unittest.main()
