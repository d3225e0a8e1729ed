"""same and differ: what two places know, and how items stand at them."""

import unittest

from tests.helper import DEVICE, clear, differ, good, last, look, many, same, scan, send, since, state


def at_place(p, calls):
    """The calls, each told to this place."""
    return [call[:1] + [p] + call[2:] for call in calls]


def compared(here, there):
    """same, behind facts told to place 0 and others told to place 1."""
    return last(*at_place(0, here), *at_place(1, there), same())


class Facts(unittest.TestCase):
    def test_nothing_known(self):
        for a in (0, 1, 2):
            for b in (0, 1, 2):
                self.assertEqual(last(same(a, b)), [1, 1])
                self.assertEqual(last(*many(3), clear(), same(a, b)), [1, 1])

    def test_the_same_facts(self):
        told = [scan(), look(5, 9), scan(kind=2, number=2, clock=3)]
        self.assertEqual(compared(told, told), [1, 1])

    def test_the_same_facts_in_another_order(self):
        told = [scan(), look(5, 9), scan(kind=2, number=2, clock=3), scan(i=8, number=4), look(0, 3, number=9)]
        for k in range(5):
            self.assertEqual(compared(told, told[k:] + told[:k]), [1, 1])
        self.assertEqual(compared(told, told[::-1]), [1, 1])

    def test_a_place_and_itself(self):
        told = [scan(), look(5, 9), scan(kind=4, signature=5, number=2)]
        for p in (0, 1, 2):
            self.assertEqual(last(*at_place(p, told), same(p, p)), [1, 1])

    def test_facts_of_the_one_among_those_of_the_other(self):
        told = [scan(), scan(i=8, number=2)]
        for here, there in ((told, told[:1]), (told[:1], told), (told, []), ([], told)):
            self.assertEqual(compared(here, there), [0, 0])

    def test_each_two_places(self):
        told = [scan(p=0), scan(p=1), scan(p=2, number=2)]
        for a, b, wanted in ((0, 1, [1, 1]), (1, 0, [1, 1]), (0, 2, [0, 1]), (2, 1, [0, 1])):
            self.assertEqual(last(*told, same(a, b)), wanted)

    def test_sent_to_one_another(self):
        told = [scan(), scan(p=1, kind=2, number=2, clock=5), look(0, 9)]
        self.assertEqual(last(*told, same()), [0, 0])
        self.assertEqual(last(*told, send(0, 1), same()), [0, 0])
        self.assertEqual(last(*told, send(0, 1), send(1, 0), same()), [1, 1])


class Alike(unittest.TestCase):
    """Places that know other facts, and where all items stand alike all the same."""

    def test_looks_alone(self):
        self.assertEqual(compared([look()], []), [0, 1])
        self.assertEqual(compared([], [look()]), [0, 1])
        self.assertEqual(compared([look()], [look(1, 1)]), [0, 1])

    def test_scans_of_other_numbers_devices_clocks(self):
        self.assertEqual(compared([scan()], [scan(number=2)]), [0, 1])
        self.assertEqual(compared([scan()], [scan(d=2, setting=3, clock=70)]), [0, 1])

    def test_more_scans_that_change_nothing(self):
        here = [scan(office=1)]
        there = here + [scan(kind=2, office=1, number=2, clock=1), scan(kind=1, office=1, number=3, clock=2)]
        self.assertEqual(compared(here, there), [0, 1])
        self.assertEqual(compared(there, here), [0, 1])

    def test_looks_that_leave_the_order(self):
        here = [scan(), scan(kind=2, number=2, d=2, clock=20)]
        self.assertEqual(compared(here, here + [look(20, 11, d=2)]), [0, 1])

    def test_other_signatures_behind_which_nobody_has_signed(self):
        self.assertEqual(compared([scan(signature=good(7, 1, 1))], [scan()]), [0, 1])
        self.assertEqual(compared([scan(signature=good(7, 1, 1) + 1)], [scan(signature=1)]), [0, 1])

    def test_the_same_signer_with_another_clock(self):
        signature = good(7, 1, 5)
        here = [scan(), scan(kind=6, number=5, clock=9, signature=signature)]
        there = [scan(), scan(kind=6, number=5, clock=8, setting=2, signature=signature)]
        self.assertEqual(compared(here, there), [0, 1])


class Otherwise(unittest.TestCase):
    """Items that stand otherwise in one of the things that since looks at."""

    def check(self, here, there):
        self.assertEqual(compared(here, there), [0, 0])
        self.assertEqual(compared(there, here), [0, 0])

    def stands(self, told, wanted):
        self.assertEqual(last(*told, state()), wanted)

    def test_known_to_one_alone(self):
        self.check([scan()], [])
        self.check([scan()], [look()])
        self.check([scan(), scan(i=8)], [scan()])
        self.check([scan(i=8)], [scan(i=9)])

    def test_the_state_alone(self):
        here, there = [scan()], [scan(), scan(kind=2, number=2, clock=1)]
        self.stands(here, [1, 0, 0, 0])
        self.stands(there, [2, 0, 0, 0])
        self.check(here, there)

    def test_the_office_alone(self):
        self.check([scan(office=1)], [scan(office=2)])

    def test_the_attempts_alone(self):
        here = [scan(), scan(kind=3, number=2, clock=1)]
        there = here + [scan(kind=4, number=3, clock=2)]
        self.stands(here, [3, 0, 0, 0])
        self.stands(there, [3, 0, 1, 0])
        self.check(here, there)

    def test_how_many_are_odd_alone(self):
        here, there = [scan()], [scan(), scan(number=2)]
        self.stands(here, [1, 0, 0, 0])
        self.stands(there, [1, 0, 0, 1])
        self.check(here, there)

    def test_the_places_of_the_odd_ones_alone(self):
        here = [scan(clock=10), scan(number=2, clock=50)]
        there = here + [scan(kind=2, number=3, clock=20), scan(kind=1, number=4, clock=30)]
        self.stands(here, [1, 0, 0, 1])
        self.stands(there, [1, 0, 0, 1])
        self.check(here, there)

    def check_signers(self, one, other):
        for kind, signed_state in ((6, 6), (7, 9)):
            told = []
            for d, number, signature in (one, other):
                delivered = scan(kind=kind, office=2, d=d, number=number, clock=9, signature=signature)
                told.append([scan(office=2, d=DEVICE), delivered])
                self.stands(told[-1], [signed_state, 2, 0, 0])
            self.check(told[0], told[1])

    def test_the_signer_s_device(self):
        # One signature isn't good for two devices with one number.
        self.check_signers((1, 2, good(7, 1, 2)), (2, 2, good(7, 2, 2)))
        self.assertEqual(good(7, 1, 4), good(7, 6, 1))
        self.check_signers((1, 4, good(7, 1, 4)), (6, 1, good(7, 6, 1)))

    def test_the_signer_s_number_alone(self):
        self.assertEqual(good(7, 1, 2), good(7, 1, 99))
        self.check_signers((1, 2, good(7, 1, 2)), (1, 99, good(7, 1, 99)))

    def test_the_signature_alone(self):
        self.check_signers((1, 2, good(7, 1, 2)), (1, 2, good(7, 1, 2, 1)))

    def test_one_item_of_many(self):
        told = [scan(i=i, number=i) for i in range(1, 99)]
        for i in (1, 50, 99):
            self.check(told + [scan(i=i, kind=2, number=100, clock=1)], told)

    def test_as_since_tells_it(self):
        told = [scan(kind=k % 10, i=k % 4 + 1, office=k % 2, number=k, clock=k) for k in range(1, 30)]
        for k in range(30):
            items = last(*told, since(k))[0]
            self.assertEqual(compared(told, told[:k]), [1 if k == 29 else 0, 1 if items == 0 else 0])


class Differ(unittest.TestCase):
    def known(self, here, there, *calls):
        return last(*at_place(0, here), *at_place(1, there), *calls)

    def test_with_no_facts(self):
        for a in (0, 1, 2):
            for b in (0, 1, 2):
                self.assertEqual(last(differ(a, b)), [0, 0])

    def test_how_many_each_knows_alone(self):
        here = [scan(number=k) for k in (1, 2, 3, 4, 5)] + [look(), look(number=2)]
        there = [look(number=2), scan(number=9), scan(number=2), scan(number=1)]
        self.assertEqual(self.known(here, there, differ()), [4, 1])
        self.assertEqual(self.known(here, there, differ(1, 0)), [1, 4])
        self.assertEqual(self.known(here, there, differ(0, 2)), [7, 0])
        self.assertEqual(self.known(here, there, differ(2, 1)), [0, 4])

    def test_a_place_and_itself(self):
        for p in (0, 1, 2):
            self.assertEqual(last(*many(5, p=p), differ(p, p)), [0, 0])

    def test_the_same_facts_in_another_order(self):
        told = many(10) + [look()]
        self.assertEqual(self.known(told, told[::-1], differ()), [0, 0])

    def test_facts_that_clash_differ(self):
        self.assertEqual(self.known([scan()], [scan(kind=1)], differ()), [1, 1])
        self.assertEqual(self.known([scan()], [look()], differ()), [1, 1])
        self.assertEqual(self.known([scan(), scan(kind=1), look()], [scan(kind=1)], differ()), [2, 0])

    def test_each_number_of_a_fact_makes_it_another(self):
        for other in (
            scan(d=2), scan(number=2), scan(setting=1), scan(clock=1),
            scan(i=8), scan(kind=1), scan(office=1), scan(signature=1),
        ):
            self.assertEqual(self.known([scan()], [other], differ()), [1, 1])
        for other in (look(d=2), look(number=2), look(setting=1), look(clock=1), look(time=1)):
            self.assertEqual(self.known([look()], [other], differ()), [1, 1])

    def test_items_scanned_more_than_once(self):
        here = [scan(kind=k, number=k + 1) for k in range(10)]
        self.assertEqual(self.known(here, here[3:6], differ()), [7, 0])

    def test_behind_send_and_clear(self):
        told = many(5) + many(4, p=1, first=3)
        self.assertEqual(last(*told, differ()), [2, 1])
        self.assertEqual(last(*told, send(0, 1), differ()), [0, 1])
        self.assertEqual(last(*told, send(0, 1), send(1, 0), differ()), [0, 0])
        self.assertEqual(last(*told, clear(), differ()), [0, 0])

    def test_full_places(self):
        self.assertEqual(last(*many(100), *many(100, p=1, first=101), differ()), [100, 100])
        self.assertEqual(last(*many(100), *many(100, p=1, first=51), differ()), [50, 50])


if __name__ == "__main__":
    unittest.main()
