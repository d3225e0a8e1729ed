"""import_text and convert: which lines are wrong, in both forms."""

import re
import unittest

from tests.helper import all_texts, bytes_of, convert, import_text, last, look, scan

SCAN = (
    "D1 N0023 E4 T00567 I08 DLV C S000091",
    "EVT:DLV;OFF:C;ITM:8;SIG:91;DEV:1;SEQ:23;EPO:4;CLK:567",
)
BARE = (
    "D1 N0023 E4 T00567 I08 DLV C S000000",
    "EVT:DLV;OFF:C;ITM:8;DEV:1;SEQ:23;EPO:4;CLK:567",
)
LOOK = (
    "D1 N0023 E4 T00567 = T00890",
    "EVT:SYN;TRU:890;DEV:1;SEQ:23;EPO:4;CLK:567",
)
KNOWN = (scan(), look(number=2), scan(p=1, number=3))

# The two forms told once more, by patterns: one of a whole line, and one of each part.
WORDS_PATTERN = re.compile(
    rb"D[0-7] N(?!0000)[0-9]{4} E[0-9] T[0-9]{5} "
    rb"(= T[0-9]{5}|I(?!00)[0-9]{2} (PST|ARR|LFT|OUT|ATT|HLD|DLV|RET|CIN|COT) [A-F] S[0-9]{6})"
)
PART_PATTERNS = {
    b"EVT": rb"PST|ARR|LFT|OUT|ATT|HLD|DLV|RET|CIN|COT|SYN",
    b"OFF": rb"[A-F]",
    b"ITM": rb"[1-9][0-9]?",
    b"SIG": rb"[1-9][0-9]{0,5}",
    b"DEV": rb"[0-7]",
    b"SEQ": rb"[1-9][0-9]{0,3}",
    b"EPO": rb"[0-9]",
    b"CLK": rb"0|[1-9][0-9]{0,4}",
    b"TRU": rb"0|[1-9][0-9]{0,4}",
}


def is_right(line, form):
    """Whether the line, a bytes value, is one of a fact, by the patterns."""
    if form == 0:
        return WORDS_PATTERN.fullmatch(line) is not None
    found = [part.split(b":", 1) for part in line.split(b";")]
    for part in found:
        if len(part) != 2 or part[0] not in PART_PATTERNS:
            return False
        if re.fullmatch(PART_PATTERNS[part[0]], part[1]) is None:
            return False
    names = sorted([part[0] for part in found if part[0] != b"SIG"])
    signatures = len(found) - len(names)
    if [b"EVT", b"SYN"] in found:
        return signatures == 0 and names == [b"CLK", b"DEV", b"EPO", b"EVT", b"SEQ", b"TRU"]
    return signatures <= 1 and names == [b"CLK", b"DEV", b"EPO", b"EVT", b"ITM", b"OFF", b"SEQ"]


def first_wrong(numbers, form):
    """The first line of the text that's wrong by the patterns; 0 if none is."""
    for index, line in enumerate(bytes(numbers).split(b"\n")):
        if line and not is_right(line, form):
            return index + 1
    return 0


def changed_by_one(line):
    """The line with each one of its bytes left out, replaced by each other one, and with one more."""
    numbers = bytes_of(line)
    for k in range(len(numbers) + 1):
        ahead, behind = numbers[:k], numbers[k + 1:]
        yield ahead + behind
        for byte in range(256):
            yield ahead + [byte] + behind
            yield ahead + [byte] + numbers[k:]


def with_part(line, name, part):
    """The line of form 1 with another part in the place of the one of this name."""
    parts = line.split(";")
    found = [index for index, old in enumerate(parts) if old.startswith(name)]
    parts[found[0]] = part
    return ";".join(parts)


class Wrong(unittest.TestCase):
    def check(self, form, line):
        """The line is wrong in this form, whether alone, ahead of right ones or behind them."""
        right = LOOK[form]
        texts = {
            line: 1,
            f"{right}\n{line}": 2,
            f"{line}\n{right}": 1,
            f"\n\n{right}\n\n{line}\n": 5,
            f"{line}\n{line}": 1,
            f"\n{line}\n{right}\n{line}": 2,
        }
        for text, wanted in texts.items():
            with self.subTest(form=form, text=text):
                told = import_text(text, form)
                self.assertEqual(last(*KNOWN, told), [0, -1, wanted])
                self.assertEqual(all_texts(*KNOWN, told), all_texts(*KNOWN))
                self.assertEqual(last(convert(text, form)), [0, -1, wanted])

    def check_all(self, form, lines):
        for line in lines:
            self.check(form, line)


class BothForms(Wrong):
    def test_the_lines_here_are_right(self):
        for form in (0, 1):
            text = "\n".join([SCAN[form], BARE[form], LOOK[form]])
            self.assertEqual(last(import_text(text, form)), [3, 3])

    def test_lines_of_the_other_form(self):
        for form in (0, 1):
            self.check_all(form, (SCAN[1 - form], BARE[1 - form], LOOK[1 - form]))

    def test_lines_that_are_nothing(self):
        for form in (0, 1):
            self.check_all(form, (" ", "  ", "x", "=", ":", ";", "\r", "\t", "\0", "D1", "EVT:SYN"))

    def test_a_line_ends_by_a_byte_10_alone(self):
        for form in (0, 1):
            self.check_all(form, (SCAN[form] + "\r", LOOK[form] + "\r", f"{LOOK[form]}\r{LOOK[form]}"))
            self.check_all(form, (LOOK[form] + "\0", f"{LOOK[form]}\x0b{LOOK[form]}", "\x85"))

    def test_lower_letters(self):
        for form in (0, 1):
            self.check_all(form, (SCAN[form].lower(), LOOK[form].lower()))

    def test_other_digits(self):
        # Each byte here is a digit in some writing, but not one of 0 to 9.
        for digit in "\xb2\xb3\xb9":
            self.check_all(0, (SCAN[0].replace("2", digit), LOOK[0].replace("4", digit)))
            self.check_all(1, (SCAN[1].replace("23", digit), LOOK[1].replace("EPO:4", f"EPO:{digit}")))

    def test_all_lines_count_from_1(self):
        for form in (0, 1):
            for k in range(40):
                for ahead in ("\n", f"{LOOK[form]}\n", f"\n{SCAN[form]}\n"):
                    text = ahead * k + "x"
                    self.assertEqual(last(import_text(text, form)), [0, -1, text.count("\n") + 1])
                    self.assertEqual(last(convert(text, form)), [0, -1, text.count("\n") + 1])
        self.assertEqual(last(import_text("\n" * 3999 + "x")), [0, -1, 4000])

    def test_each_line_changed_by_one_byte(self):
        for form in (0, 1):
            for line in (SCAN[form], BARE[form], LOOK[form]):
                for numbers in changed_by_one(line):
                    wrong = first_wrong(numbers, form)
                    given = last(import_text(numbers, form))
                    if (given[1:] != [-1, wrong]) if wrong else (given[1] not in (1, 2)):
                        self.fail(f"{bytes(numbers)} in form {form} answers {given}")


class Form0(Wrong):
    def test_a_word_too_few(self):
        for line in (SCAN[0], BARE[0], LOOK[0]):
            words = line.split(" ")
            for k in range(len(words)):
                self.check(0, " ".join(words[:k] + words[k + 1:]))

    def test_a_word_too_many(self):
        for line in (SCAN[0], LOOK[0]):
            words = line.split(" ")
            for k in range(len(words) + 1):
                for more in ("D1", "S000091", "T00567", "x", "="):
                    self.check(0, " ".join(words[:k] + [more] + words[k:]))

    def test_two_words_as_one_and_others_in_their_places(self):
        for line in (SCAN[0], LOOK[0]):
            words = line.split(" ")
            for k in range(len(words) - 1):
                self.check(0, " ".join(words[:k] + [words[k] + words[k + 1]] + words[k + 2:]))
                self.check(0, " ".join(words[:k] + [words[k + 1], words[k]] + words[k + 2:]))

    def test_two_blanks_in_a_row(self):
        for line in (SCAN[0], LOOK[0]):
            for k in range(len(line)):
                if line[k] == " ":
                    self.check(0, line[:k] + " " + line[k:])

    def test_a_blank_at_either_end(self):
        for line in (SCAN[0], LOOK[0]):
            self.check_all(0, (" " + line, line + " ", f" {line} "))

    def test_a_letter_that_is_none(self):
        for line in (SCAN[0], LOOK[0]):
            words = line.split(" ")
            for k, word in enumerate(words):
                if word[1:].isdigit():
                    for letter in ("X", word[0].lower(), "0", "-", ""):
                        self.check(0, " ".join(words[:k] + [letter + word[1:]] + words[k + 1:]))

    def test_too_few_or_too_many_digits(self):
        for line in (SCAN[0], LOOK[0]):
            words = line.split(" ")
            for k, word in enumerate(words):
                if word[1:].isdigit():
                    for other in (word[:-1], word[0], word + "0", word[0] + "0" + word[1:]):
                        self.check(0, " ".join(words[:k] + [other] + words[k + 1:]))

    def test_signs_among_the_digits(self):
        for sign in ("-", "+", "_", " ", ".", "x"):
            self.check_all(0, (SCAN[0].replace("T0", "T" + sign), SCAN[0].replace("S0", "S" + sign)))
            self.check_all(0, (LOOK[0].replace("N00", "N0" + sign), LOOK[0].replace("E4", "E" + sign)))

    def test_numbers_beyond_their_ranges(self):
        for line in (SCAN[0], LOOK[0]):
            self.check_all(0, (line.replace("D1", "D8"), line.replace("D1", "D9")))
            self.check(0, line.replace("N0023", "N0000"))
        self.check(0, SCAN[0].replace("I08", "I00"))

    def test_a_kind_that_is_none(self):
        for letters in ("SYN", "DEL", "dlv", "DL", "DLVX", "D", "006", ""):
            self.check(0, SCAN[0].replace("DLV", letters))

    def test_an_office_that_is_none(self):
        for letter in ("G", "H", "Z", "c", "2", "AB", "ABCDEF", "@", ""):
            self.check(0, SCAN[0].replace("C", letter))

    def test_a_look_without_its_sign_or_its_time(self):
        self.check_all(0, (
            "D1 N0023 E4 T00567",
            "D1 N0023 E4 T00567 ",
            "D1 N0023 E4 T00567 =",
            "D1 N0023 E4 T00567 = ",
            "D1 N0023 E4 T00567 T00890",
            "D1 N0023 E4 T00567  T00890",
            "D1 N0023 E4 T00567 =T00890",
            "D1 N0023 E4 T00567= T00890",
            "D1 N0023 E4 T00567=T00890",
            "D1 N0023 E4 T00567 == T00890",
            "D1 N0023 E4 T00567 : T00890",
            "D1 N0023 E4 T00567 = 00890",
        ))

    def test_words_of_both_sorts_of_facts(self):
        self.check_all(0, (
            SCAN[0] + " = T00890",
            LOOK[0] + " I08 DLV C S000091",
            "D1 N0023 E4 T00567 = DLV C S000091",
            "D1 N0023 E4 T00567 I08 T00890",
            "D1 N0023 E4 T00567 = T00890 C S000091",
        ))


class Form1(Wrong):
    def test_a_part_missing(self):
        for line in (SCAN[1], BARE[1], LOOK[1]):
            parts = line.split(";")
            for k, part in enumerate(parts):
                if not part.startswith("SIG"):
                    self.check(1, ";".join(parts[:k] + parts[k + 1:]))

    def test_a_name_twice(self):
        for line in (SCAN[1], BARE[1], LOOK[1]):
            parts = line.split(";")
            for part in parts:
                self.check_all(1, (f"{line};{part}", f"{part};{line}"))
        self.check_all(1, (LOOK[1] + ";EPO:5", LOOK[1] + ";EVT:PST", SCAN[1] + ";EVT:SYN", SCAN[1] + ";SIG:92"))

    def test_a_name_twice_in_the_place_of_another(self):
        self.check(1, with_part(LOOK[1], "TRU", "CLK:890"))
        self.check(1, with_part(SCAN[1], "ITM", "DEV:1"))
        self.check(1, with_part(SCAN[1], "SIG", "ITM:8"))
        self.check(1, with_part(SCAN[1], "OFF", "SIG:91"))

    def test_a_name_that_is_none(self):
        for line in (SCAN[1], BARE[1], LOOK[1]):
            for part in ("XYZ:1", "dev:1", "DEVI:1", "DE:1", ":1", ":", " DEV:1", "DEV :1", "NUM:23"):
                self.check_all(1, (f"{line};{part}", with_part(line, "DEV", part)))

    def test_a_part_of_the_other_sort_of_fact(self):
        for part in ("OFF:C", "ITM:8", "SIG:91", "SIG:0"):
            self.check_all(1, (f"{LOOK[1]};{part}", f"{part};{LOOK[1]}", with_part(LOOK[1], "TRU", part)))
        for line in (SCAN[1], BARE[1]):
            self.check_all(1, (f"{line};TRU:890", f"TRU:890;{line}", with_part(line, "ITM", "TRU:890")))
        self.check(1, with_part(SCAN[1], "SIG", "TRU:890"))
        self.check(1, with_part(SCAN[1], "EVT", "EVT:SYN"))
        self.check(1, with_part(LOOK[1], "EVT", "EVT:PST"))

    def test_a_kind_or_an_office_that_is_none(self):
        for letters in ("DEL", "dlv", "DL", "DLVX", "6", "SYNC", "PSTARR", " DLV"):
            self.check(1, with_part(SCAN[1], "EVT", "EVT:" + letters))
        for letter in ("G", "H", "Z", "c", "2", "AB", "ABCDEF", "@"):
            self.check(1, with_part(SCAN[1], "OFF", "OFF:" + letter))

    def test_an_empty_value(self):
        for line in (SCAN[1], BARE[1], LOOK[1]):
            for part in line.split(";"):
                self.check(1, with_part(line, part, part[:4]))

    def test_an_empty_part(self):
        for line in (SCAN[1], LOOK[1]):
            self.check_all(1, (f"{line};", f";{line}", line.replace(";", ";;", 1), f"{line};;"))
            for part in line.split(";"):
                self.check(1, with_part(line, part, ""))

    def test_no_colon_and_two(self):
        for line in (SCAN[1], BARE[1], LOOK[1]):
            for part in line.split(";"):
                for other in (part[:3], part[:3] + part[4:], part + ":", part[:4] + part[3:], part + ":1"):
                    self.check(1, with_part(line, part, other))

    def test_blanks(self):
        for line in (SCAN[1], LOOK[1]):
            for other in (" " + line, line + " ", line.replace(":", ": "), line.replace(";", "; "), line.replace(";", " ")):
                self.check(1, other)

    def test_zeros_before(self):
        for line in (SCAN[1], BARE[1], LOOK[1]):
            for part in line.split(";"):
                if part[4:].isdigit():
                    self.check(1, with_part(line, part, part[:4] + "0" + part[4:]))
        for name in ("DEV", "EPO", "CLK", "TRU"):
            self.check_all(1, (with_part(LOOK[1], name, name + ":00"), with_part(LOOK[1], name, name + ":000000")))

    def test_signature_0_is_never_right(self):
        for value in ("0", "00", "-0", "+0", "000000"):
            self.check(1, with_part(SCAN[1], "SIG", "SIG:" + value))
            self.check(1, BARE[1] + ";SIG:" + value)

    def test_values_beyond_their_ranges(self):
        beyond = {
            "DEV": (8, 9, 10),
            "SEQ": (0, 10000, 99999),
            "EPO": (10, 99),
            "CLK": (100000, 999999),
        }
        for name, values in beyond.items():
            for value in values + (-1, 10 ** 6, 10 ** 18, 10 ** 200):
                self.check(1, with_part(SCAN[1], name, f"{name}:{value}"))
                self.check(1, with_part(LOOK[1], name, f"{name}:{value}"))
        for value in (100000, -1, 10 ** 18):
            self.check(1, with_part(LOOK[1], "TRU", f"TRU:{value}"))
        for value in (0, 100, 999, -1, 10 ** 18):
            self.check(1, with_part(SCAN[1], "ITM", f"ITM:{value}"))
        for value in (1000000, 9999999, -1, 10 ** 18):
            self.check(1, with_part(SCAN[1], "SIG", f"SIG:{value}"))

    def test_a_value_of_almost_all_the_text(self):
        for digit in "01239":
            line = with_part(LOOK[1], "CLK", "CLK:" + digit * 3900)
            self.assertEqual(last(import_text(line, 1)), [0, -1, 1])

    def test_values_that_are_no_decimal_numbers(self):
        for value in ("x", "+1", "-1", "1.0", "1_0", "0x1", "1e1", " 1", "1 "):
            for name in ("DEV", "SEQ", "EPO", "CLK", "TRU"):
                self.check(1, with_part(LOOK[1], name, f"{name}:{value}"))
            for name in ("ITM", "SIG"):
                self.check(1, with_part(SCAN[1], name, f"{name}:{value}"))


if __name__ == "__main__":
    unittest.main()
