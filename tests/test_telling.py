"""clear, scan, sync and send: what the places learn."""

import unittest

from tests.helper import all_texts, ask, clear, export, history, last, look, many, scan
from tests.helper import scans_of, send, since, state, text_of, time


class Clear(unittest.TestCase):
    def test_it_answers_0(self):
        self.assertEqual(ask(clear()), [[0]])

    def test_no_place_knows_anything_behind_it(self):
        told = [scan(p=0), look(p=1), scan(p=2)]
        self.assertNotIn("", all_texts(*told))
        self.assertEqual(all_texts(*told, clear()), ["", "", ""])

    def test_what_was_known_is_new_again(self):
        self.assertEqual(ask(scan(), clear(), scan()), [[1, 1], [0], [1, 1]])

    def test_a_full_place_learns_again(self):
        self.assertEqual(last(*many(100), clear(), scan(number=101)), [1, 1])

    def test_looks_are_forgotten(self):
        self.assertEqual(last(look(10, 50), clear(), time(10)), [0, 10, 0])


class Scan(unittest.TestCase):
    def test_new_facts_are_counted(self):
        self.assertEqual(ask(scan(), scan(number=2), scan(number=3)), [[1, 1], [1, 2], [1, 3]])

    def test_a_known_fact_is_not_new(self):
        self.assertEqual(ask(scan(), scan(number=2), scan()), [[1, 1], [1, 2], [0, 2]])

    def test_each_number_makes_another_fact(self):
        unlike = [
            scan(),
            scan(d=2),
            scan(number=2),
            scan(setting=1),
            scan(clock=1),
            scan(i=8),
            scan(kind=1),
            scan(office=1),
            scan(signature=1),
        ]
        self.assertEqual(ask(*unlike), [[1, k] for k in range(1, 10)])
        self.assertEqual(ask(*unlike, *unlike)[9:], [[0, 9]] * 9)

    def test_a_place_knows_what_it_was_told_itself(self):
        self.assertEqual(
            ask(scan(p=0), scan(p=1), scan(p=2), scan(p=1)), [[1, 1], [1, 1], [1, 1], [0, 1]]
        )
        self.assertEqual(last(scan(p=1), state(p=0)), [0, 0, 0, 0])
        self.assertEqual(last(scan(p=1), state(p=1)), [1, 0, 0, 0])

    def test_all_that_is_told_stands_in_the_history(self):
        told = scan(i=31, kind=6, office=4, signature=777, p=2, d=5, number=1234, setting=6, clock=77)
        self.assertEqual(scans_of(told, history(2, 31)), [(77, 6, 4, 5, 1234, 777, 1)])

    def test_100_facts_and_one_more(self):
        full = many(100)
        self.assertEqual(ask(*full)[-1], [1, 100])
        self.assertEqual(last(*full, scan(number=101)), [-3])
        self.assertEqual(all_texts(*full, scan(number=101)), all_texts(*full))

    def test_a_full_place_is_told_a_known_fact(self):
        self.assertEqual(last(*many(100), scan(number=57)), [0, 100])

    def test_another_place_is_not_full(self):
        self.assertEqual(last(*many(100), scan(p=1, number=101)), [1, 1])

    def test_out_of_range_counts_ahead_of_too_many(self):
        self.assertEqual(last(*many(100), scan(number=101, signature=1000000)), [-1])
        self.assertEqual(last(*many(100), scan(number=101, d=8)), [-1])


class Sync(unittest.TestCase):
    def test_new_and_known_looks_are_counted(self):
        self.assertEqual(ask(look(), look(number=2), look()), [[1, 1], [1, 2], [0, 2]])

    def test_each_number_makes_another_fact(self):
        unlike = [look(), look(d=2), look(number=2), look(setting=1), look(clock=1), look(time=1)]
        self.assertEqual(ask(*unlike), [[1, k] for k in range(1, 7)])
        self.assertEqual(ask(*unlike, *unlike)[6:], [[0, 6]] * 6)

    def test_a_look_is_no_scan(self):
        self.assertEqual(ask(look(), scan(), look(), scan()), [[1, 1], [1, 2], [0, 2], [0, 2]])

    def test_looks_count_among_the_100_facts(self):
        full = many(99) + [look()]
        self.assertEqual(last(*full), [1, 100])
        self.assertEqual(last(*full, look(number=2)), [-3])
        self.assertEqual(last(*full, look()), [0, 100])
        self.assertEqual(all_texts(*full, look(number=2)), all_texts(*full))
        self.assertEqual(last(*full, look(5, 9, number=2), time(5)), [0, 5, 1])

    def test_out_of_range_counts_ahead_of_too_many(self):
        self.assertEqual(last(*many(100), look(time=100000)), [-1])


class Send(unittest.TestCase):
    def test_all_is_told_in_the_order_of_the_sender(self):
        told = [scan(number=5), look(3, 4, number=2), scan(number=9, clock=1), scan(number=1)]
        self.assertEqual(last(*told, send(0, 1)), [4, 4])
        self.assertEqual(text_of(*told, send(0, 1), export(p=1)), text_of(*told, export()))

    def test_the_sender_keeps_what_it_knows(self):
        told = many(3)
        self.assertEqual(all_texts(*told, send(0, 2)), [all_texts(*told)[0], "", all_texts(*told)[0]])

    def test_known_facts_keep_their_order_and_are_not_new(self):
        told = [scan(number=1), scan(number=2), scan(number=3), scan(number=3, p=1), scan(number=4, p=1)]
        self.assertEqual(last(*told, send(0, 1)), [2, 4])
        text = text_of(*told, send(0, 1), export(p=1))[1]
        self.assertEqual([line[3:8] for line in text.split("\n")], ["N0003", "N0004", "N0001", "N0002"])

    def test_sent_again_nothing_is_new(self):
        self.assertEqual(ask(*many(3), send(0, 1), send(0, 1), send(1, 0))[3:], [[3, 3], [0, 3], [0, 3]])

    def test_the_first_k_are_left_out(self):
        for k, new in ((0, 4), (1, 3), (2, 2), (3, 1), (4, 0), (5, 0), (100, 0)):
            with self.subTest(k=k):
                self.assertEqual(last(*many(4), send(0, 1, k)), [new, new])
        text = text_of(*many(4), send(0, 1, 2), export(p=1))[1]
        self.assertEqual([line[3:8] for line in text.split("\n")], ["N0003", "N0004"])

    def test_a_sender_that_knows_nothing(self):
        self.assertEqual(last(scan(p=1), send(0, 1)), [0, 1])

    def test_what_comes_later_is_not_sent(self):
        self.assertEqual(last(scan(), send(0, 1), scan(number=2), state(p=1)), [1, 0, 0, 0])
        self.assertEqual(last(scan(), send(0, 1), scan(number=2), send(1, 0)), [0, 2])
        self.assertEqual(last(scan(), send(0, 1), scan(number=2), send(0, 1, 1)), [1, 2])

    def test_to_the_same_place(self):
        for p in (0, 1, 2):
            self.assertEqual(last(scan(p=p), send(p, p)), [-1])
            self.assertEqual(all_texts(scan(p=p), send(p, p)), all_texts(scan(p=p)))

    def test_100_facts_and_one_more(self):
        told = many(60) + many(50, p=1, first=51)
        self.assertEqual(last(*told, send(0, 1)), [50, 100])
        more = many(61) + many(50, p=1, first=101)
        self.assertEqual(last(*more, send(0, 1)), [-3])
        self.assertEqual(all_texts(*more, send(0, 1)), all_texts(*more))
        self.assertEqual(last(*more, send(0, 1, 10)), [-3])
        self.assertEqual(last(*more, send(0, 1, 11)), [50, 100])

    def test_a_full_place_is_sent_what_it_knows(self):
        self.assertEqual(last(*many(100), send(0, 1), send(1, 0)), [0, 100])

    def test_to_the_same_place_or_beyond_counts_ahead_of_too_many(self):
        full = many(100) + many(100, p=1, first=101)
        self.assertEqual(last(*full, send(0, 1)), [-3])
        self.assertEqual(last(*full, send(0, 1, 101)), [-1])
        self.assertEqual(last(*full, send(0, 0)), [-1])
        self.assertEqual(last(*full, send(0, 3)), [-1])

    def test_looks_are_sent_with_the_scans(self):
        told = [look(0, 500), scan(clock=10)]
        self.assertEqual(scans_of(*told, send(0, 1), history(1))[0][0], 510)
        self.assertEqual(scans_of(*told, send(0, 1, 1), history(1))[0][0], 10)

    def test_the_first_k_of_the_receiver_stand_ahead(self):
        told = [scan(p=1, i=8), scan(p=0), send(0, 1)]
        self.assertEqual(last(*told, since(1, p=1)), [1, 1, 7])


if __name__ == "__main__":
    unittest.main()
