"""export: facts written in both record forms."""

import unittest

from tests.helper import KINDS, clear, export, last, look, many, scan, send, text_of


class Form0(unittest.TestCase):
    def test_a_scan(self):
        self.assertEqual(text_of(scan(), export(0)), (1, "D1 N0001 E0 T00000 I07 PST A S000000"))

    def test_a_look(self):
        told = look(345, 67, d=3, number=89, setting=2)
        self.assertEqual(text_of(told, export(0)), (1, "D3 N0089 E2 T00345 = T00067"))

    def test_numbers_with_and_without_zeros_before(self):
        told = [
            scan(i=10, kind=9, office=5, signature=100000, d=7, number=1000, setting=9, clock=10000),
            scan(i=9, kind=9, office=5, signature=99999, d=7, number=999, setting=9, clock=9999),
            look(10000, 99999, d=0, number=9999, setting=8),
            look(9, 10, d=0, number=10, setting=8),
        ]
        lines = [
            "D7 N1000 E9 T10000 I10 COT F S100000",
            "D7 N0999 E9 T09999 I09 COT F S099999",
            "D0 N9999 E8 T10000 = T99999",
            "D0 N0010 E8 T00009 = T00010",
        ]
        self.assertEqual(text_of(*told, export(0)), (4, "\n".join(lines)))


class Form1(unittest.TestCase):
    def test_a_scan_without_a_signature(self):
        self.assertEqual(
            text_of(scan(), export(1)), (1, "EVT:PST;OFF:A;ITM:7;DEV:1;SEQ:1;EPO:0;CLK:0")
        )

    def test_a_scan_with_a_signature(self):
        told = scan(i=99, kind=6, office=2, signature=33, d=2, number=4, setting=5, clock=12345)
        self.assertEqual(
            text_of(told, export(1)), (1, "EVT:DLV;OFF:C;ITM:99;SIG:33;DEV:2;SEQ:4;EPO:5;CLK:12345")
        )

    def test_the_least_and_the_greatest_signature(self):
        told = [scan(signature=1), scan(signature=999999)]
        text = text_of(*told, export(1))[1]
        self.assertEqual([line.split(";")[3] for line in text.split("\n")], ["SIG:1", "SIG:999999"])

    def test_a_look(self):
        told = look(345, 67, d=3, number=89, setting=2)
        self.assertEqual(text_of(told, export(1)), (1, "EVT:SYN;TRU:67;DEV:3;SEQ:89;EPO:2;CLK:345"))

    def test_a_look_of_zeros(self):
        self.assertEqual(
            text_of(look(0, 0, d=0), export(1)), (1, "EVT:SYN;TRU:0;DEV:0;SEQ:1;EPO:0;CLK:0")
        )


class BothForms(unittest.TestCase):
    def test_no_facts_are_an_empty_text(self):
        for form in (0, 1):
            for i in (0, 7):
                self.assertEqual(last(export(form, i)), [0, 0])
                self.assertEqual(last(scan(i=8), scan(p=1), clear(), export(form, i)), [0, 0])
            self.assertEqual(last(scan(i=8), export(form, 7)), [0, 0])

    def test_the_answer_number_by_number(self):
        text = "D1 N0001 E0 T00000 = T00005\nD1 N0002 E0 T00000 I07 PST A S000000"
        self.assertEqual(
            last(look(0, 5), scan(number=2), export(0)), [2, len(text)] + [ord(sign) for sign in text]
        )

    def test_each_kind_and_each_office(self):
        told = [scan(kind=kind, office=office) for kind in range(10) for office in range(6)]
        names = [(kind, office) for kind in KINDS for office in "ABCDEF"]
        lines = text_of(*told, export(0))[1].split("\n")
        self.assertEqual([tuple(line.split(" ")[5:7]) for line in lines], names)
        lines = text_of(*told, export(1))[1].split("\n")
        self.assertEqual([tuple(p[4:] for p in line.split(";")[:2]) for line in lines], names)

    def test_all_facts_in_the_order_in_which_the_place_heard_of_them(self):
        told = [
            scan(number=9, clock=5),
            look(number=3),
            scan(i=8, number=5, clock=1),
            scan(number=9, clock=5),
            scan(number=1, clock=3),
        ]
        lines = [
            "D1 N0009 E0 T00005 I07 PST A S000000",
            "D1 N0003 E0 T00000 = T00000",
            "D1 N0005 E0 T00001 I08 PST A S000000",
            "D1 N0001 E0 T00003 I07 PST A S000000",
        ]
        self.assertEqual(text_of(*told, export(0)), (4, "\n".join(lines)))
        numbers = [line.split(";SEQ:")[1][0] for line in text_of(*told, export(1))[1].split("\n")]
        self.assertEqual(numbers, ["9", "3", "5", "1"])

    def test_an_item_s_scans_and_all_looks(self):
        told = [
            scan(number=1),
            scan(number=2, i=8),
            look(number=3, d=5),
            scan(number=4),
            look(number=5, setting=4),
            scan(number=6, i=70),
        ]
        for i, numbers in ((7, "1345"), (8, "235"), (70, "356"), (1, "35"), (99, "35"), (0, "123456")):
            for form, sign in ((0, " N000"), (1, ";SEQ:")):
                count, text = text_of(*told, export(form, i))
                self.assertEqual(count, len(numbers))
                self.assertEqual([line.split(sign)[1][0] for line in text.split("\n")], list(numbers))

    def test_each_place_has_its_own(self):
        told = [scan(p=0), scan(p=1, number=2), send(1, 2)]
        for p, number in ((0, "N0001"), (1, "N0002"), (2, "N0002")):
            self.assertEqual(text_of(*told, export(0, p=p))[1][3:8], number)

    def test_an_item_s_number_is_not_taken_for_a_look_s_time(self):
        told = [look(1, 7), look(1, 8)]
        self.assertEqual(text_of(*told, export(0, 7))[0], 2)

    def test_a_hundred_facts(self):
        count, text = text_of(*many(100), export(0))
        self.assertEqual((count, len(text)), (100, 100 * 36 + 99))
        self.assertEqual(text.count("\n"), 99)
        self.assertFalse(text.endswith("\n"))


if __name__ == "__main__":
    unittest.main()
