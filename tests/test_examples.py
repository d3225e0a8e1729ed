"""The document's two examples, number by number."""

import unittest

from scanplaces.places import answers
from tests.helper import ask, history, last, look, scan, state, time


class Examples(unittest.TestCase):
    def test_the_time_put_right(self):
        looks = [look(100, 130, d=1), look(200, 210, d=1, number=2)]
        asked = [time(clock) for clock in (50, 150, 200, 250)]
        self.assertEqual(
            ask(*looks, *asked), [[1, 1], [1, 2], [0, 80, 2], [0, 170, 2], [0, 210, 2], [0, 260, 2]]
        )

    def test_the_same_as_one_list(self):
        calls = [2, 0, 1, 1, 0, 100, 130, 2, 0, 1, 2, 0, 200, 210]
        calls += [6, 0, 1, 0, 50, 6, 0, 1, 0, 150, 6, 0, 1, 0, 200, 6, 0, 1, 0, 250]
        wanted = [2, 1, 1, 2, 1, 2, 3, 0, 80, 2, 3, 0, 170, 2, 3, 0, 210, 2, 3, 0, 260, 2]
        self.assertEqual(answers(calls), wanted)

    def test_an_odd_delivery_against_a_good_signature(self):
        posted = scan(i=7, kind=0, office=0, d=1, number=1, clock=10)
        delivered = scan(i=7, kind=6, office=2, signature=33, d=2, number=4, clock=20)
        come = scan(i=7, kind=1, office=3, d=3, number=6, clock=30)
        self.assertEqual(
            ask(posted, state(), delivered, state(), come, state()),
            [[1, 1], [1, 0, 0, 0], [1, 2], [6, 2, 0, 1], [1, 3], [6, 2, 0, 2]],
        )
        self.assertEqual(
            last(come, delivered, posted, history()),
            [3, 21, 10, 0, 0, 1, 1, 0, 0, 20, 6, 2, 2, 4, 33, 1, 30, 1, 3, 3, 6, 0, 1],
        )

    def test_the_signature_is_good_only_with_33_modulo_97(self):
        posted = scan(i=7, kind=0, office=0, d=1, number=1, clock=10)
        for signature, wanted in ((33, 6), (130, 6), (32, 5), (34, 5), (0, 5)):
            delivered = scan(i=7, kind=6, office=2, signature=signature, d=2, number=4, clock=20)
            self.assertEqual(last(posted, delivered, state()), [wanted, 2, 0, 1])


if __name__ == "__main__":
    unittest.main()
