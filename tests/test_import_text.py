"""import_text: the facts of a text are told to a place."""

import unittest

from tests.helper import FAR, KINDS, all_texts, ask, clear, export, history, import_text, last, look, many
from tests.helper import scan, scans_of, send, since, text_of, time

SCAN = ("D1 N0023 E4 T00567 I08 DLV C S000091", "EVT:DLV;OFF:C;ITM:8;SIG:91;DEV:1;SEQ:23;EPO:4;CLK:567")
LOOK = ("D3 N0004 E0 T00100 = T00130", "EVT:SYN;TRU:130;DEV:3;SEQ:4;EPO:0;CLK:100")
TOLD_SCAN = scan(i=8, kind=6, office=2, signature=91, d=1, number=23, setting=4, clock=567)
TOLD_LOOK = look(100, 130, d=3, number=4)
FORMS = (0, 1)


def written(form, *calls):
    """What place 0 knows behind these calls, as a text."""
    return text_of(*calls, export(form))[1]


def looks(how_many, first=1):
    """Lines of so many unlike looks in form 0."""
    return "\n".join([f"D1 N{first + k:04} E0 T00000 = T00000" for k in range(how_many)])


class Lines(unittest.TestCase):
    def test_a_scan(self):
        for form in FORMS:
            self.assertEqual(ask(import_text(SCAN[form], form), TOLD_SCAN), [[1, 1], [0, 1]])
            told = import_text(SCAN[form], form)
            self.assertEqual(scans_of(told, history(0, 8)), [(567, 6, 2, 1, 23, 91, 1)])

    def test_a_look(self):
        for form in FORMS:
            self.assertEqual(ask(import_text(LOOK[form], form), TOLD_LOOK), [[1, 1], [0, 1]])
            told = import_text(LOOK[form], form)
            self.assertEqual(last(told, time(110, d=3)), [0, 140, 1])

    def test_scans_and_looks_in_the_order_of_their_lines(self):
        for form in FORMS:
            for lines in ([SCAN[form], LOOK[form]], [LOOK[form], SCAN[form]]):
                told = import_text("\n".join(lines), form)
                self.assertEqual(last(told), [2, 2])
                self.assertEqual(written(form, told), "\n".join(lines))

    def test_a_scan_without_a_signature(self):
        self.assertEqual(ask(import_text("D1 N0001 E0 T00000 I07 PST A S000000"), scan()), [[1, 1], [0, 1]])
        text = "EVT:PST;OFF:A;ITM:7;DEV:1;SEQ:1;EPO:0;CLK:0"
        self.assertEqual(ask(import_text(text, 1), scan()), [[1, 1], [0, 1]])

    def test_each_kind_and_each_office(self):
        for kind, letters in enumerate(KINDS):
            for office, letter in enumerate("ABCDEF"):
                told = scan(kind=kind, office=office)
                text = f"D1 N0001 E0 T00000 I07 {letters} {letter} S000000"
                self.assertEqual(ask(told, import_text(text)), [[1, 1], [0, 1]], text)
                text = f"EVT:{letters};OFF:{letter};ITM:7;DEV:1;SEQ:1;EPO:0;CLK:0"
                self.assertEqual(ask(told, import_text(text, 1)), [[1, 1], [0, 1]], text)

    def test_the_least_and_the_greatest_of_all(self):
        least = scan(i=1, d=0), look(d=0)
        greatest = (
            scan(i=99, kind=9, office=5, signature=999999, d=7, number=9999, setting=9, clock=99999),
            look(99999, 99999, d=7, number=9999, setting=9),
        )
        texts = (
            "D0 N0001 E0 T00000 I01 PST A S000000\nD0 N0001 E0 T00000 = T00000",
            "EVT:PST;OFF:A;ITM:1;DEV:0;SEQ:1;EPO:0;CLK:0\nEVT:SYN;TRU:0;DEV:0;SEQ:1;EPO:0;CLK:0",
        )
        for form in FORMS:
            self.assertEqual(ask(*least, import_text(texts[form], form))[2], [0, 2])
        texts = (
            "D7 N9999 E9 T99999 I99 COT F S999999\nD7 N9999 E9 T99999 = T99999",
            "EVT:COT;OFF:F;ITM:99;SIG:999999;DEV:7;SEQ:9999;EPO:9;CLK:99999\n"
            "EVT:SYN;TRU:99999;DEV:7;SEQ:9999;EPO:9;CLK:99999",
        )
        for form in FORMS:
            self.assertEqual(ask(*greatest, import_text(texts[form], form))[2], [0, 2])

    def test_parts_of_form_1_in_another_order(self):
        for line, told in ((SCAN[1], TOLD_SCAN), (LOOK[1], TOLD_LOOK)):
            parts = line.split(";")
            for k in range(len(parts)):
                for turned in (parts[k:] + parts[:k], parts[k::-1] + parts[:k:-1]):
                    text = ";".join(turned)
                    self.assertEqual(ask(told, import_text(text, 1)), [[1, 1], [0, 1]], text)

    def test_empty_lines_between_ahead_and_behind(self):
        for form in FORMS:
            for text in (
                f"{SCAN[form]}\n\n\n{LOOK[form]}",
                f"\n{SCAN[form]}\n{LOOK[form]}",
                f"\n\n\n{SCAN[form]}\n{LOOK[form]}",
                f"{SCAN[form]}\n{LOOK[form]}\n",
                f"{SCAN[form]}\n{LOOK[form]}\n\n\n",
                f"\n{SCAN[form]}\n\n{LOOK[form]}\n\n",
            ):
                told = import_text(text, form)
                self.assertEqual(last(told), [2, 2])
                self.assertEqual(written(form, told), f"{SCAN[form]}\n{LOOK[form]}")

    def test_a_text_of_no_numbers_and_of_empty_lines(self):
        for form in FORMS:
            for text in ("", "\n", "\n\n\n"):
                self.assertEqual(last(import_text(text, form)), [0, 0])
                self.assertEqual(last(*many(3), import_text(text, form)), [0, 3])
                self.assertEqual(last(*many(100), import_text(text, form)), [0, 100])


class Told(unittest.TestCase):
    def test_a_fact_twice_in_one_text(self):
        for form in FORMS:
            text = "\n".join([SCAN[form], LOOK[form], SCAN[form], LOOK[form], LOOK[form]])
            told = import_text(text, form)
            self.assertEqual(ask(told, told), [[2, 2], [0, 2]])
            self.assertEqual(written(form, told), f"{SCAN[form]}\n{LOOK[form]}")

    def test_facts_that_are_known_already(self):
        for form in FORMS:
            text = f"{SCAN[form]}\n{LOOK[form]}"
            self.assertEqual(last(TOLD_LOOK, import_text(text, form)), [1, 2])
            self.assertEqual(last(TOLD_LOOK, TOLD_SCAN, import_text(text, form)), [0, 2])
            self.assertEqual(written(form, TOLD_LOOK, import_text(text, form)), f"{LOOK[form]}\n{SCAN[form]}")

    def test_both_forms_tell_the_same_facts(self):
        for a, b in ((0, 1), (1, 0)):
            one = import_text(f"{SCAN[a]}\n{LOOK[a]}", a)
            other = import_text(f"{LOOK[b]}\n{SCAN[b]}", b)
            self.assertEqual(ask(one, other), [[2, 2], [0, 2]])

    def test_each_place_learns_for_itself(self):
        for p in (0, 1, 2):
            texts = all_texts(import_text(SCAN[0], p=p))
            self.assertEqual(texts, [SCAN[0] if place == p else "" for place in (0, 1, 2)])
        told = [import_text(SCAN[0], p=1), import_text(LOOK[1], 1, p=1), send(1, 2)]
        self.assertEqual(ask(*told), [[1, 1], [1, 2], [2, 2]])

    def test_what_is_imported_stands_behind_what_is_known(self):
        self.assertEqual(last(scan(), import_text(SCAN[0]), scan(i=9), since(1)), [2, 2, 8, 9])
        self.assertEqual(last(scan(), import_text(SCAN[0]), scan(i=9), since(2)), [1, 1, 9])

    def test_clear_forgets_what_was_imported(self):
        self.assertEqual(ask(import_text(SCAN[0]), clear(), import_text(SCAN[0])), [[1, 1], [0], [1, 1]])

    def test_what_is_exported_can_be_imported(self):
        told = [scan(i=k + 1, kind=k % 10, office=k % 6, signature=k * 9999, d=k % 8, number=k + 1) for k in range(60)]
        told += [look(k * 11, k * 13, d=k % 8, number=k + 1, setting=k % 10) for k in range(5)]
        for form in FORMS:
            text = written(form, *told)
            self.assertLessEqual(len(text), 4000)
            self.assertEqual(ask(import_text(text, form, p=1))[0], [65, 65])
            self.assertEqual(all_texts(*told, import_text(text, form, p=1))[1], written(0, *told))


class Refused(unittest.TestCase):
    def check(self, wanted, *calls):
        """The last of the calls answers so, and changes nothing."""
        self.assertEqual(last(*calls), wanted)
        self.assertEqual(all_texts(*calls), all_texts(*calls[:-1]))

    def test_too_long_or_not(self):
        for form in FORMS:
            full = f"{SCAN[form]}\n{LOOK[form]}" + "\n" * 4000
            self.assertEqual(last(import_text(full[:4000], form)), [2, 2])
            self.check([-2], scan(), import_text(full[:4001], form))
            self.check([-2], scan(), import_text(full[:4001] + "x" * 999, form))
        self.assertEqual(last(import_text("\n" * 4000)), [0, 0])
        self.check([-2], import_text("\n" * 4001))
        self.check([-2], import_text("\n" * 5000))

    def test_a_number_that_is_no_byte(self):
        for form in FORMS:
            for number in (-1, 256, 10 + 256, 48 + 256, -246, FAR, -FAR):
                for text in ([number], [10, number], [number, 10], [10] * 3999 + [number]):
                    self.check([-2], scan(), import_text(text, form))
                right = [ord(sign) for sign in SCAN[form]]
                self.check([-2], import_text(right + [10, number], form))
                self.check([-2], import_text([number, 10] + right, form))

    def test_bytes_at_the_ends_make_wrong_lines(self):
        for form in FORMS:
            for byte in (0, 255):
                self.check([0, -1, 1], import_text([byte], form))

    def test_out_of_range_counts_ahead_of_no_text(self):
        for text in ("\n" * 4001, [256], [-1]):
            self.check([-1], import_text(text, p=3))
            self.check([-1], import_text(text, p=-1))
            self.check([-1], import_text(text, form=2))
            self.check([-1], import_text(text, form=-1))

    def test_out_of_range_counts_ahead_of_a_wrong_line_and_of_too_many(self):
        full = many(100)
        for text in ("x", looks(1)):
            self.check([-1], *full, import_text(text, p=3))
            self.check([-1], *full, import_text(text, form=2))

    def test_no_text_counts_ahead_of_a_wrong_line_and_of_too_many(self):
        full = many(100)
        for text in ("x", looks(1)):
            numbers = [ord(sign) for sign in text]
            self.check([-2], *full, import_text(numbers + [10, 256]))
            self.check([-2], *full, import_text(numbers + [10] * 4000))

    def test_a_wrong_line_counts_ahead_of_too_many(self):
        self.check([0, -1, 2], *many(100), import_text(looks(1) + "\nx"))
        self.check([0, -1, 102], import_text(looks(101) + "\nx"))

    def test_100_facts_and_one_more(self):
        self.assertEqual(last(import_text(looks(100))), [100, 100])
        self.check([-3], import_text(looks(101)))
        self.assertEqual(last(*many(60), import_text(looks(40))), [40, 100])
        self.check([-3], *many(60), import_text(looks(41)))
        self.check([-3], *many(100), import_text(looks(1)))
        self.check([-3], *many(100), import_text("EVT:SYN;TRU:0;DEV:0;SEQ:1;EPO:0;CLK:0", 1))

    def test_known_facts_do_not_count_for_too_many(self):
        self.assertEqual(ask(import_text(looks(100)), import_text(looks(100))), [[100, 100], [0, 100]])
        self.assertEqual(ask(import_text(looks(70)), import_text(looks(90, 11))), [[70, 70], [30, 100]])
        self.check([-3], import_text(looks(70)), import_text(looks(91, 11)))
        self.assertEqual(last(*many(99), import_text(looks(1) + "\n" + looks(1))), [1, 100])

    def test_another_place_is_not_full(self):
        self.assertEqual(last(import_text(looks(100)), import_text(looks(3), p=1)), [3, 3])

    def test_calls_behind_a_text_are_answered(self):
        told = []
        for text in ("", "x", [256], "\n" * 4001, looks(2)):
            told += [import_text(text), import_text(text, p=3)]
        self.assertEqual(
            ask(*told, scan()),
            [[0, 0], [-1], [0, -1, 1], [-1], [-2], [-1], [-2], [-1], [2, 2], [-1], [1, 3]],
        )


if __name__ == "__main__":
    unittest.main()
