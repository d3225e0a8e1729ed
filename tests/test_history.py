"""history: the scans of an item in their order, wherever they were heard of."""

import itertools
import unittest

from tests.helper import good, history, last, look, scan, scans_of, send, state

# Setting 1 shows 40 less than setting 0; setting 2 stands still between its two looks.
LOOKS = [
    look(10, 50, d=1, setting=1),
    look(10, 50, d=1, number=2, setting=2),
    look(20, 50, d=1, number=3, setting=2),
]

# Pairs that differ in one key of the order, each other key behind it speaking for the other way.
TIES = {
    "time": (
        scan(kind=9, office=5, d=7, number=99, signature=9, setting=9, clock=49),
        scan(kind=0, office=0, d=0, number=1, signature=0, setting=0, clock=50),
    ),
    "kind": (
        scan(kind=1, office=5, d=7, number=99, signature=9, setting=9, clock=50),
        scan(kind=2, office=0, d=0, number=1, signature=0, setting=0, clock=50),
    ),
    "office": (
        scan(office=1, d=7, number=99, signature=9, setting=9, clock=50),
        scan(office=2, d=0, number=1, signature=0, setting=0, clock=50),
    ),
    "device": (
        scan(d=3, number=99, signature=9, setting=9, clock=50),
        scan(d=4, number=1, signature=0, setting=0, clock=50),
    ),
    "number": (
        scan(number=9, signature=9, setting=1, clock=10),
        scan(number=10, signature=0, setting=0, clock=50),
    ),
    "signature": (
        scan(signature=9, setting=1, clock=10),
        scan(signature=10, setting=0, clock=50),
    ),
}


class History(unittest.TestCase):
    def test_of_nothing(self):
        self.assertEqual(last(history()), [0, 0])
        self.assertEqual(last(look(), scan(i=8), scan(p=1), history()), [0, 0])

    def test_a_row_of_each_scan(self):
        signature = good(7, 3, 12, 4)
        told = [
            scan(kind=6, office=2, signature=signature, d=3, number=12, clock=900),
            scan(kind=0, office=2, d=1, number=8, clock=100),
            scan(kind=4, office=5, signature=1, d=0, number=7, setting=4, clock=400),
        ]
        self.assertEqual(
            last(*told, history()),
            [3, 21]
            + [100, 0, 2, 1, 8, 0, 0]
            + [400, 4, 5, 0, 7, 1, 1]
            + [900, 6, 2, 3, 12, signature, 1],
        )

    def test_only_the_item_s_scans_at_the_place(self):
        told = [scan(number=1), scan(number=2, i=8), scan(number=3, p=1), scan(number=4)]
        self.assertEqual([row[4] for row in scans_of(*told, history())], [1, 4])

    def test_the_order_is_that_of_the_time_put_right_and_not_of_the_clock(self):
        told = [scan(d=1, clock=100), scan(d=2, clock=50), look(0, 200, d=2)]
        self.assertEqual([row[3] for row in scans_of(*told, history())], [1, 2])
        self.assertEqual([row[0] for row in scans_of(*told, history())], [100, 250])

    def test_which_key_counts_where_those_ahead_are_the_same(self):
        for name, (earlier, later) in TIES.items():
            with self.subTest(key=name):
                wanted = [self.keys_told(earlier), self.keys_told(later)]
                for told in ([earlier, later], [later, earlier]):
                    given = [row[1:6] for row in scans_of(*LOOKS, *told, history())]
                    self.assertEqual(given, wanted)

    def keys_told(self, call):
        """Kind, office, device, number, signature of the scan that the call tells."""
        return (call[7], call[8], call[2], call[3], call[9])

    def test_times_are_the_same_in_the_pairs(self):
        for name, pair in TIES.items():
            if name != "time":
                times = [row[0] for row in scans_of(*LOOKS, *pair, history())]
                self.assertEqual(times, [50, 50], name)

    def test_setting_and_clock_count_last(self):
        # These two keys aren't told in the rows: three scans that differ in them alone.
        scans = [
            scan(setting=2, clock=12),
            scan(setting=2, clock=14),
            scan(setting=0, clock=50),
            scan(setting=1, clock=10),
        ]
        rows = scans_of(*LOOKS, *scans, history())
        self.assertEqual([row[:6] for row in rows], [(50, 0, 0, 1, 1, 0)] * 4)
        self.assertEqual([row[6] for row in rows], [0, 1, 1, 1])

    def test_any_order_of_hearing_gives_one_history(self):
        told = [
            scan(kind=0, d=1, number=1, clock=10),
            scan(kind=3, d=1, number=2, clock=40),
            scan(kind=6, d=2, number=9, clock=20, signature=good(7, 2, 9)),
            look(10, 30, d=2, number=8),
            look(30, 90, d=2, number=7),
        ]
        wanted = last(*told, history())
        for order in itertools.permutations(told):
            self.assertEqual(last(*order, history()), wanted)
            self.assertEqual(last(*order, state()), last(*told, state()))

    def test_places_that_heard_the_same_tell_the_same(self):
        told = [scan(number=1, kind=2), look(0, 9), scan(number=2, clock=5), scan(number=3, p=1, kind=1)]
        sent = told + [send(1, 0), send(0, 1), send(0, 2)]
        self.assertEqual(last(*sent, history(1)), last(*sent, history(0)))
        self.assertEqual(last(*sent, history(2)), last(*sent, history(0)))
        self.assertEqual(len(scans_of(*sent, history(2))), 3)

    def test_odd_scans_are_marked_each(self):
        told = [scan(kind=kind, number=k + 1, clock=k) for k, kind in enumerate((2, 1, 0, 2, 1, 1))]
        self.assertEqual([row[6] for row in scans_of(*told, history())], [1, 0, 1, 0, 0, 1])

    def test_a_hundred_scans(self):
        told = [scan(number=k, clock=k) for k in range(100, 0, -1)]
        rows = scans_of(*told, history())
        self.assertEqual([row[0] for row in rows], list(range(1, 101)))
        self.assertEqual([row[6] for row in rows], [0] + [1] * 99)


if __name__ == "__main__":
    unittest.main()
