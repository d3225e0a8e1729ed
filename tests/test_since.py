"""since: the items that stand otherwise than by a place's first facts alone."""

import unittest

from tests.helper import good, history, last, look, many, rows, scan, since, state


def otherwise(first, *more):
    """The items that stand otherwise by all of these facts than by the first ones alone."""
    return [row[0] for row in rows(last(*first, *more, since(len(first))), 1)]


class Since(unittest.TestCase):
    def test_nothing_known(self):
        self.assertEqual(last(since(0)), [0, 0])
        self.assertEqual(last(since(100)), [0, 0])

    def test_k_from_0_to_beyond_what_is_known(self):
        told = [scan(i=9), scan(i=3, number=2), look(number=3), scan(i=5, number=4)]
        expected = {0: [3, 3, 3, 5, 9], 1: [2, 2, 3, 5], 2: [1, 1, 5], 3: [1, 1, 5], 4: [0, 0], 5: [0, 0], 100: [0, 0]}
        for k, wanted in expected.items():
            self.assertEqual(last(*told, since(k)), wanted, k)

    def test_the_first_facts_are_the_first_heard_of_and_not_the_earliest(self):
        told = [scan(kind=2, clock=90), scan(number=2, clock=10)]
        self.assertEqual(otherwise(told[:1], told[1]), [7])
        self.assertEqual(otherwise(told[1:], told[0]), [7])

    def test_each_place_has_its_own(self):
        told = [scan(i=4, p=1), scan(i=5, p=0)]
        self.assertEqual(last(*told, since(0, p=1)), [1, 1, 4])
        self.assertEqual(last(*told, since(0, p=2)), [0, 0])

    def test_items_rise(self):
        told = [scan(i=i, number=i) for i in (50, 99, 2, 10, 1, 9)]
        self.assertEqual(otherwise([], *told), [1, 2, 9, 10, 50, 99])

    def test_an_item_that_no_fact_scans_is_not_told(self):
        self.assertEqual(otherwise([], look(), look(number=2)), [])

    def test_the_state_alone(self):
        first = [scan(office=1), scan(kind=3, office=1, number=2, clock=1)]
        more = [scan(kind=5, office=1, number=3, clock=2)]
        self.assertEqual(last(*first, state()), [3, 1, 0, 0])
        self.assertEqual(last(*first, *more, state()), [4, 1, 0, 0])
        self.assertEqual(otherwise(first, *more), [7])

    def test_the_office_alone(self):
        first = [scan(office=1)]
        more = [scan(kind=2, office=1, number=2, clock=1), scan(kind=1, office=3, number=3, clock=2)]
        self.assertEqual(last(*first, state()), [1, 1, 0, 0])
        self.assertEqual(last(*first, *more, state()), [1, 3, 0, 0])
        self.assertEqual(otherwise(first, *more), [7])

    def test_the_attempts_alone(self):
        first = [scan(), scan(kind=3, number=2, clock=1)]
        more = [scan(kind=4, number=3, clock=2)]
        self.assertEqual(last(*first, state()), [3, 0, 0, 0])
        self.assertEqual(last(*first, *more, state()), [3, 0, 1, 0])
        self.assertEqual(otherwise(first, *more), [7])

    def test_how_many_are_odd_alone(self):
        first = [scan()]
        more = [scan(number=2)]
        self.assertEqual(last(*first, *more, state()), [1, 0, 0, 1])
        self.assertEqual(otherwise(first, *more), [7])

    def test_the_places_of_the_odd_ones_alone(self):
        first = [scan(clock=10), scan(number=2, clock=50)]
        more = [scan(kind=2, number=3, clock=20), scan(kind=1, number=4, clock=30)]
        self.assertEqual(last(*first, state()), [1, 0, 0, 1])
        self.assertEqual(last(*first, *more, state()), [1, 0, 0, 1])
        self.assertEqual(otherwise(first, *more), [7])

    def test_who_has_signed_alone(self):
        # Behind the look device 2 delivers ahead of device 1: it has signed then.
        first = [
            scan(d=0, clock=10),
            scan(kind=6, d=1, number=2, clock=20, signature=good(7, 1, 2)),
            scan(kind=6, d=2, number=2, clock=30, signature=good(7, 2, 2)),
        ]
        more = [look(30, 15, d=2, number=5)]
        self.assertEqual(last(*first, state()), [6, 0, 0, 1])
        self.assertEqual(last(*first, *more, state()), [6, 0, 0, 1])
        self.assertEqual(otherwise(first, *more), [7])

    def check_signers(self, one, two, wanted):
        """Two deliveries of setting 0 and 1; behind a look the second one comes first."""
        first = [
            scan(d=0, clock=10),
            scan(kind=6, number=one[0], signature=one[1], setting=0, clock=20),
            scan(kind=6, number=two[0], signature=two[1], setting=1, clock=30),
        ]
        more = [look(30, 15, number=500, setting=1)]
        for told in (first, first + more):
            self.assertEqual(last(*told, state()), [6, 0, 0, 1])
        self.assertEqual(otherwise(first, *more), wanted)

    def test_signers_that_differ_in_the_number_alone(self):
        self.assertEqual(good(7, 1, 2), good(7, 1, 99))
        self.check_signers((2, good(7, 1, 2)), (99, good(7, 1, 99)), [7])

    def test_signers_that_differ_in_the_signature_alone(self):
        self.check_signers((2, good(7, 1, 2)), (2, good(7, 1, 2, 3)), [7])

    def test_signers_that_differ_in_setting_and_clock_alone_are_one(self):
        self.check_signers((2, good(7, 1, 2)), (2, good(7, 1, 2)), [])

    def test_signed_returns_tell_who_has_signed_too(self):
        first = [
            scan(d=0, clock=10),
            scan(kind=7, d=1, number=2, clock=20, signature=good(7, 1, 2)),
            scan(kind=7, d=2, number=2, clock=30, signature=good(7, 2, 2)),
        ]
        self.assertEqual(otherwise(first, look(30, 15, d=2, number=5)), [7])

    def test_new_scans_that_change_nothing(self):
        first = [scan(office=1)]
        more = [scan(kind=2, office=1, number=2, clock=1), scan(kind=1, office=1, number=3, clock=2)]
        self.assertEqual(last(*first, *more, state()), last(*first, state()))
        self.assertEqual(otherwise(first, *more), [])

    def test_looks_change_the_history_of_scans_known_before(self):
        first = [scan(d=1, clock=10), scan(kind=2, d=2, clock=20), scan(i=8, d=1, clock=10)]
        more = [look(20, 5, d=2, number=9)]
        self.assertEqual(last(*first, state()), [2, 0, 0, 0])
        self.assertEqual(last(*first, *more, state()), [1, 0, 0, 2])
        self.assertEqual(otherwise(first, *more), [7])

    def test_looks_that_change_times_but_not_the_order(self):
        first = [scan(d=1, clock=10), scan(kind=2, d=2, clock=20)]
        more = [look(20, 11, d=2, number=9)]
        self.assertNotEqual(last(*first, history()), last(*first, *more, history()))
        self.assertEqual(otherwise(first, *more), [])

    def test_a_look_among_the_first_facts_counts_for_both(self):
        first = [look(20, 5, d=2, number=9), scan(d=1, clock=10), scan(kind=2, d=2, clock=20)]
        self.assertEqual(otherwise(first, scan(i=9, number=7)), [9])

    def test_99_items_at_a_full_place(self):
        told = [scan(i=i, number=i) for i in range(1, 100)] + [look()]
        self.assertEqual(otherwise([], *told), list(range(1, 100)))
        self.assertEqual(last(*told, since(98)), [1, 1, 99])
        self.assertEqual(last(*many(100), since(100)), [0, 0])
        self.assertEqual(last(*many(100), since(99)), [1, 1, 7])


if __name__ == "__main__":
    unittest.main()
