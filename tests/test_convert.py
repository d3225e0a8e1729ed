"""convert: a text of one form, written in the other."""

import unittest

from tests.helper import FAR, KINDS, all_texts, ask, convert, export, last, look, many, scan, text_of

# Lines of one fact each, in form 0 and in form 1 as it's written.
PAIRS = (
    ("D1 N0023 E4 T00567 I08 DLV C S000091", "EVT:DLV;OFF:C;ITM:8;SIG:91;DEV:1;SEQ:23;EPO:4;CLK:567"),
    ("D1 N0023 E4 T00567 I08 DLV C S000000", "EVT:DLV;OFF:C;ITM:8;DEV:1;SEQ:23;EPO:4;CLK:567"),
    ("D3 N0004 E0 T00100 = T00130", "EVT:SYN;TRU:130;DEV:3;SEQ:4;EPO:0;CLK:100"),
    ("D0 N0001 E0 T00000 I01 PST A S000001", "EVT:PST;OFF:A;ITM:1;SIG:1;DEV:0;SEQ:1;EPO:0;CLK:0"),
    ("D7 N9999 E9 T99999 I99 COT F S999999", "EVT:COT;OFF:F;ITM:99;SIG:999999;DEV:7;SEQ:9999;EPO:9;CLK:99999"),
    ("D0 N0001 E0 T00000 = T00000", "EVT:SYN;TRU:0;DEV:0;SEQ:1;EPO:0;CLK:0"),
    ("D7 N9999 E9 T99999 = T99999", "EVT:SYN;TRU:99999;DEV:7;SEQ:9999;EPO:9;CLK:99999"),
)
FORMS = (0, 1)


class BothWays(unittest.TestCase):
    def test_a_line(self):
        for pair in PAIRS:
            for form in FORMS:
                self.assertEqual(text_of(convert(pair[form], form)), (1, pair[1 - form]))

    def test_lines_are_parted_by_bytes_10_with_nothing_behind_the_last(self):
        for form in FORMS:
            text = "\n".join([pair[form] for pair in PAIRS])
            wanted = "\n".join([pair[1 - form] for pair in PAIRS])
            self.assertEqual(text_of(convert(text, form)), (len(PAIRS), wanted))

    def test_the_answer_number_by_number(self):
        one, other = PAIRS[2]
        self.assertEqual(last(convert(one, 0)), [1, len(other)] + [ord(sign) for sign in other])
        self.assertEqual(last(convert(other, 1)), [1, len(one)] + [ord(sign) for sign in one])

    def test_each_kind_and_each_office(self):
        for letters in KINDS:
            for letter in "ABCDEF":
                one = f"D2 N0003 E4 T00005 I06 {letters} {letter} S000000"
                other = f"EVT:{letters};OFF:{letter};ITM:6;DEV:2;SEQ:3;EPO:4;CLK:5"
                self.assertEqual(text_of(convert(one, 0)), (1, other))
                self.assertEqual(text_of(convert(other, 1)), (1, one))

    def test_alike_facts_are_each_written(self):
        for form in FORMS:
            order = (0, 2, 0, 0, 1, 2)
            text = "\n".join([PAIRS[k][form] for k in order])
            wanted = "\n".join([PAIRS[k][1 - form] for k in order])
            self.assertEqual(text_of(convert(text, form)), (6, wanted))

    def test_nothing_is_said_of_empty_lines(self):
        for form in FORMS:
            one, two = PAIRS[0][form], PAIRS[2][form]
            wanted = (2, PAIRS[0][1 - form] + "\n" + PAIRS[2][1 - form])
            for text in (f"{one}\n\n\n{two}", f"\n{one}\n{two}", f"{one}\n{two}\n", f"\n\n{one}\n\n{two}\n\n\n"):
                self.assertEqual(text_of(convert(text, form)), wanted)

    def test_a_text_of_no_fact(self):
        for form in FORMS:
            for text in ("", "\n", "\n\n\n", "\n" * 4000):
                self.assertEqual(last(convert(text, form)), [0, 0])

    def test_parts_of_form_1_in_another_order(self):
        for one, other in PAIRS:
            parts = other.split(";")
            for k in range(len(parts)):
                self.assertEqual(text_of(convert(";".join(parts[k:] + parts[:k]), 1)), (1, one))
            self.assertEqual(text_of(convert(";".join(parts[::-1]), 1)), (1, one))

    def test_no_place_learns_or_is_asked(self):
        known = [scan(), look(p=1), scan(p=2)]
        for form in FORMS:
            self.assertEqual(all_texts(*known, convert(PAIRS[0][form], form)), all_texts(*known))
            wanted = last(convert(PAIRS[0][form], form))
            self.assertEqual(last(*many(100), convert(PAIRS[0][form], form)), wanted)

    def test_more_than_100_facts(self):
        lines = [f"D1 N{k:04} E0 T00000 = T00000" for k in range(1, 143)]
        wanted = [f"EVT:SYN;TRU:0;DEV:1;SEQ:{k};EPO:0;CLK:0" for k in range(1, 143)]
        self.assertEqual(len("\n".join(lines)), 3975)
        self.assertEqual(text_of(convert("\n".join(lines), 0)), (142, "\n".join(wanted)))

    def test_what_is_written_may_be_longer_than_a_text_that_is_told(self):
        lines = [f"D1 N0001 E0 T00000 I{k:02} PST A S000001" for k in range(1, 100)]
        wanted = [f"EVT:PST;OFF:A;ITM:{k};SIG:1;DEV:1;SEQ:1;EPO:0;CLK:0" for k in range(1, 100)]
        count, text = text_of(convert("\n".join(lines), 0))
        self.assertGreater(len(text), 4000)
        self.assertEqual((count, text), (99, "\n".join(wanted)))

    def test_as_exports_tell_it(self):
        told = [scan(i=k + 1, kind=k % 10, office=k % 6, signature=k * 9999, d=k % 8, number=k + 1) for k in range(60)]
        told += [look(k * 11, k * 13, d=k % 8, number=k + 1, setting=k % 10) for k in range(5)]
        for form in FORMS:
            text = text_of(*told, export(form))[1]
            self.assertEqual(last(convert(text, form)), last(*told, export(1 - form)))


class NotConverted(unittest.TestCase):
    def test_the_first_wrong_line(self):
        for form in FORMS:
            right = PAIRS[0][form]
            for text, wrong in (
                ("x", 1),
                (f"{right}\nx", 2),
                (f"\n\n{right}\n\nx\n{right}\ny", 5),
                (f"x\n{right}", 1),
                (f"{right}\n{PAIRS[0][1 - form]}", 2),
            ):
                self.assertEqual(last(convert(text, form)), [0, -1, wrong])

    def test_out_of_range(self):
        for form in (-1, 2, FAR, -FAR):
            for text in ("", PAIRS[0][0], "x", "\n" * 4001, [256]):
                self.assertEqual(last(convert(text, form)), [-1])

    def test_too_long_or_not(self):
        for form in FORMS:
            full = PAIRS[0][form] + "\n" * 4000
            self.assertEqual(text_of(convert(full[:4000], form)), (1, PAIRS[0][1 - form]))
            for text in (full[:4001], full[:4001] + "x" * 999, "x" * 4001, "\n" * 5000):
                self.assertEqual(last(convert(text, form)), [-2])

    def test_a_number_that_is_no_byte(self):
        for form in FORMS:
            right = [ord(sign) for sign in PAIRS[0][form]]
            for number in (-1, 256, 10 + 256, FAR, -FAR):
                for text in ([number], right + [number], [number] + right, [120, 10, number], [10] * 3999 + [number]):
                    self.assertEqual(last(convert(text, form)), [-2])
            for byte in (0, 255):
                self.assertEqual(last(convert(right + [10, byte], form)), [0, -1, 2])

    def test_calls_behind_are_answered(self):
        told = [convert(""), convert("x"), convert([256]), convert("x", 2), convert("\n" * 4001), scan()]
        self.assertEqual(ask(*told), [[0, 0], [0, -1, 1], [-2], [-1], [-2], [1, 1]])


if __name__ == "__main__":
    unittest.main()
