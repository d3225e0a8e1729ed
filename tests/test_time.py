"""time: the time put right."""

import unittest

from tests.helper import ask, clear, history, last, look, scan, scans_of, time


def put_right(clock, *looks):
    """The time put right of what the clock of device 1, setting 0 showed."""
    return last(*looks, time(clock))[1]


class Time(unittest.TestCase):
    def test_without_a_look(self):
        for clock in (0, 1, 50, 99999):
            self.assertEqual(last(time(clock)), [0, clock, 0])

    def test_one_look(self):
        for clock, right in ((0, 30), (99, 129), (100, 130), (101, 131), (99999, 100029)):
            self.assertEqual(last(look(100, 130), time(clock)), [0, right, 1])

    def test_before_the_first_and_behind_the_last(self):
        looks = (look(100, 130), look(200, 210, number=2), look(300, 350, number=3))
        expected = {0: 30, 50: 80, 99: 129, 100: 130, 200: 210, 299: 348, 300: 350, 301: 351, 400: 450}
        for clock, right in expected.items():
            self.assertEqual(put_right(clock, *looks), right, clock)

    def test_between_two_looks(self):
        looks = (look(100, 130), look(200, 210, number=2))
        for clock, right in ((101, 130), (102, 131), (105, 134), (150, 170), (199, 209), (200, 210)):
            self.assertEqual(put_right(clock, *looks), right, clock)

    def test_each_piece_between_looks_has_its_own_pace(self):
        looks = (look(0, 0), look(10, 100, number=2), look(20, 110, number=3), look(40, 111, number=4))
        for clock, right in ((1, 10), (9, 90), (10, 100), (11, 101), (20, 110), (39, 110), (40, 111)):
            self.assertEqual(put_right(clock, *looks), right, clock)

    def test_the_order_in_which_looks_are_heard_of_is_nothing(self):
        looks = [look(200, 210, number=2), look(300, 350, number=3), look(100, 130)]
        for order in (looks, looks[::-1], looks[1:] + looks[:1]):
            self.assertEqual([put_right(c, *order) for c in (50, 150, 250, 350)], [80, 170, 280, 400])

    def test_rounded_down_above_and_below_where_it_starts(self):
        rising = (look(0, 10), look(3, 11, number=2))
        self.assertEqual([put_right(c, *rising) for c in (0, 1, 2, 3)], [10, 10, 10, 11])
        falling = (look(0, 10), look(3, 9, number=2))
        self.assertEqual([put_right(c, *falling) for c in (0, 1, 2, 3)], [10, 9, 9, 9])

    def test_it_falls_as_the_clock_rises(self):
        looks = (look(100, 500), look(107, 400, number=2))
        expected = {99: 499, 100: 500, 101: 485, 102: 471, 103: 457, 104: 442, 105: 428, 106: 414, 107: 400}
        for clock, right in expected.items():
            self.assertEqual(put_right(clock, *looks), right, clock)

    def test_times_below_0(self):
        self.assertEqual(last(look(100, 0), time(0)), [0, -100, 1])
        self.assertEqual(last(look(99999, 0), time(0)), [0, -99999, 1])
        self.assertEqual(scans_of(look(100, 30), scan(clock=10), history())[0][0], -60)

    def test_two_looks_of_one_clock_with_unlike_times(self):
        looks = (look(100, 150), look(100, 120, number=2))
        for clock, right in ((99, 119), (100, 150), (101, 151)):
            self.assertEqual(last(*looks, time(clock)), [0, right, 2])
            self.assertEqual(last(*looks[::-1], time(clock)), [0, right, 2])

    def test_unlike_times_of_one_clock_between_others(self):
        looks = (look(0, 0), look(10, 50, number=2), look(10, 20, number=3), look(20, 90, number=4))
        for clock, right in ((5, 10), (9, 18), (10, 50), (11, 54), (20, 90)):
            self.assertEqual(last(*looks, time(clock)), [0, right, 4])

    def test_alike_looks_count_once(self):
        alike = (look(100, 130), look(100, 130, number=2), look(100, 130))
        self.assertEqual(last(*alike, time(50)), [0, 80, 1])
        self.assertEqual(last(*alike, look(100, 131), time(100)), [0, 131, 2])
        self.assertEqual(last(*alike, look(101, 131), time(100)), [0, 130, 2])

    def test_another_device_or_setting_does_not_count(self):
        others = (look(100, 500, d=2), look(100, 700, setting=1), look(100, 900, p=1))
        self.assertEqual(last(*others, time(100)), [0, 100, 0])
        self.assertEqual(last(*others, look(0, 1), time(100)), [0, 101, 1])
        self.assertEqual(last(*others, time(100, d=2)), [0, 500, 1])
        self.assertEqual(last(*others, time(100, setting=1)), [0, 700, 1])
        self.assertEqual(last(*others, time(100, p=1)), [0, 900, 1])
        self.assertEqual(last(*others, time(100, d=2, setting=1)), [0, 100, 0])

    def test_scans_are_no_looks(self):
        self.assertEqual(last(scan(clock=100, i=50), time(100)), [0, 100, 0])

    def test_a_look_that_comes_later_counts_for_scans_known_before(self):
        told = [scan(clock=150), history(), look(100, 130), history(), look(200, 210), history(), clear()]
        given = ask(*told)
        self.assertEqual([given[k][2] for k in (1, 3, 5)], [150, 180, 170])


if __name__ == "__main__":
    unittest.main()
