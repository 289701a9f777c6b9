"""format_sign, format_town and parse_town."""

import random
import unittest

from quietstreets.errors import InvalidSign, InvalidTown, ParseError
from quietstreets.texts import format_sign, format_town, parse_town
from quietstreets.towns import is_town

from reckoning import KITE, LADLE, SMALL, small_towns
from sample_towns import (
    GRID, GRID_SIGNS, LINE, LOLLIPOP, SQUARE, SQUARE_SIGNS, WRONG, Agreeable, Touchy, bent, put, spoiled,
)

SQUARE_TEXT = "4; 0-1:1, 0-2:2, 1-3:1, 2-3:2; none; 0, 3; none; 0"
LINE_TEXT = "2; 0-1:7; none; 0, 1; none; none"
LOLLIPOP_TEXT = "6; 0-1:1, 1-2:2, 1-5:3, 2-3:4, 2-4:5, 3-4:6; turn 0 1 5, turn 5 1 0; 0, 5; none; 1, 5"
GRID_TEXT = (
    "9; 0-1:1, 0-3:2, 0-4:3, 1-2:4, 1-4:5, 2-5:99, 3-4:7, 3-6:1, 4-5:9, 4-7:10, 4-8:11, 5-8:12, 6-7:13, 7-8:1; "
    "shut 4 7, turn 0 1 2, turn 1 0 3, turn 4 1 0, way 0 1, way 5 4; 0, 2, 6, 8; 1, 3, 4; 0, 1, 5, 13"
)
TEXTS = ((SQUARE, SQUARE_TEXT), (LINE, LINE_TEXT), (LOLLIPOP, LOLLIPOP_TEXT), (GRID, GRID_TEXT))
TOWNS = [town for town, _ in small_towns(61, 12, SMALL + ((4, KITE), (5, LADLE)))] + [town for town, _ in TEXTS]


class FormatSign(unittest.TestCase):
    def test_example(self):
        self.assertEqual(format_sign(SQUARE, ("turn", 0, 1, 3)), "turn 0 1 3")

    def test_defined_in_their_file(self):
        for function in (format_sign, format_town, parse_town):
            self.assertEqual(function.__module__, "quietstreets.texts")

    def test_each_sign(self):
        for sign in SQUARE_SIGNS:
            kind, *places = sign
            self.assertEqual(format_sign(SQUARE, sign), kind + "".join(f" {place}" for place in places))
        self.assertEqual(format_sign(SQUARE, ("way", 3, 2)), "way 3 2")
        self.assertEqual(format_sign(SQUARE, ("shut", 1, 3)), "shut 1 3")

    def test_standing_signs(self):
        for sign in GRID_SIGNS:
            self.assertEqual(format_sign(GRID, sign), " ".join(map(str, sign)))

    def test_not_a_sign(self):
        for sign in (
            ("way", 0, 3), ("shut", 1, 0), ("turn", 0, 1, 0), ("turn", 0, 1, 2), ("way", True, 0), ["way", 0, 1], ("way", 0),
            (("way", 0, 1),), "way 0 1", None, 0, True, Agreeable(), Touchy(), *WRONG, *spoiled(("turn", 0, 1, 3)),
            *bent(("turn", 0, 1, 3)),
        ):
            with self.subTest(sign=type(sign)):
                self.assertRaises(InvalidSign, format_sign, SQUARE, sign)
                self.assertRaises(InvalidTown, format_sign, SQUARE[:5], sign)

    def test_invalid_town(self):
        for town in (*WRONG, *spoiled(SQUARE), put(SQUARE, (3,), (0, 4)), Agreeable(), Touchy()):
            self.assertRaises(InvalidTown, format_sign, town, ("way", 0, 3))
            self.assertRaises(InvalidTown, format_sign, town, ("way", 0, 1))


class FormatTown(unittest.TestCase):
    def test_example(self):
        self.assertEqual(format_town(SQUARE), "4; 0-1:1, 0-2:2, 1-3:1, 2-3:2; none; 0, 3; none; 0")

    def test_texts(self):
        for town, text in TEXTS:
            self.assertEqual(format_town(town), text)

    def test_parts_without_items(self):
        # A town always has streets and gates.
        self.assertEqual(format_town(LINE), LINE_TEXT)
        self.assertEqual(format_town(put(LINE, (5,), (0,))), "2; 0-1:7; none; 0, 1; none; 0")
        town = (3, ((0, 1, 10), (1, 2, 99)), (("way", 1, 2),), (0, 1), (), ())
        self.assertEqual(format_town(town), "3; 0-1:10, 1-2:99; way 1 2; 0, 1; none; none")
        self.assertEqual(format_town(town[:2] + ((), (0, 1), (2,), ())), "3; 0-1:10, 1-2:99; none; 0, 1; 2; none")

    def test_invalid_town(self):
        for town in (*WRONG, *spoiled(SQUARE), *spoiled(GRID), *bent(LINE), put(SQUARE, (3,), (0, 4)), SQUARE_TEXT, None):
            self.assertRaises(InvalidTown, format_town, town)
        # Its gates are not joined.
        self.assertRaises(InvalidTown, format_town, put(LINE, (2,), (("way", 0, 1),)))


class ParseTown(unittest.TestCase):
    def no(self, *texts):
        for text in texts:
            with self.subTest(text=text):
                self.assertRaises(ParseError, parse_town, text)

    def changed(self, text, old, *others):
        """The text with something else instead of the old part, once for each place where that is."""
        self.assertIn(old, text)
        parts = text.split(old)
        for at in range(1, len(parts)):
            for new in others:
                self.no(old.join(parts[:at]) + new + old.join(parts[at:]))

    def test_example(self):
        self.assertEqual(parse_town("2; 0-1:7; none; 0, 1; none; none"), (2, ((0, 1, 7),), (), (0, 1), (), ()))

    def test_texts(self):
        for town, text in TEXTS:
            self.assertEqual(parse_town(text), town)

    def test_read_back(self):
        texts = {}
        for town in TOWNS:
            found = parse_town(format_town(town))
            self.assertEqual(found, town)
            self.assertIs(is_town(found), True)
            self.assertEqual(texts.setdefault(format_town(town), town), town)
        self.assertGreater(len(texts), 100)

    def test_made_of_tuples_and_integers(self):
        found = parse_town(GRID_TEXT)
        self.assertIs(type(found), tuple)
        for part in found[1:]:
            self.assertIs(type(part), tuple)
        for item in (*found[1], *found[2]):
            self.assertIs(type(item), tuple)
        for number in (found[0], *found[1][0], *found[2][0][1:], *found[3], *found[4], *found[5]):
            self.assertIs(type(number), int)

    def test_a_character_more_less_or_another_one(self):
        # Each text with a change at one place either is that of another town, or none at all.
        for text in (SQUARE_TEXT, LINE_TEXT, LOLLIPOP_TEXT, GRID_TEXT, "3; 0-1:10, 1-2:99; way 1 2; 0, 1; none; none"):
            for at in range(len(text) + 1):
                others = [text[:at] + sign + text[at:] for sign in " 0123456789+-,;:.nt\n\t_"]
                others += [text[:at] + sign + text[at + 1:] for sign in " 0123456789+-,;:.nt\n\t_"]
                others += [text[:at] + text[at + 1:], text[:at], text[at:], text[at + 1:] + text[:at]]
                for other in others:
                    self.text_or_none(other)

    def test_random_changes(self):
        chance = random.Random(62)
        read = 0
        for town in TOWNS:
            text = format_town(town)
            for _ in range(40):
                other = text
                for _ in range(chance.choice((1, 1, 2, 3))):
                    at = chance.randrange(len(other) + 1)
                    other = other[:at] + chance.choice("0123456789 -:,;") + other[at + chance.choice((0, 1)):]
                read += self.text_or_none(other)
        self.assertGreater(read, 100)

    def text_or_none(self, text):
        """Whether the text is read, and then it is the text of what is read."""
        try:
            found = parse_town(text)
        except ParseError:
            return False
        self.assertIs(is_town(found), True, text)
        self.assertEqual(format_town(found), text)
        return True

    def test_blanks(self):
        for _, text in TEXTS:
            self.no(" " + text, text + " ", text + "\n", "\n" + text, text + "\t", text.replace(" ", ""))
            self.changed(text, " ", "", "  ", "\t", "\n", "\u00a0", " \n")
            self.changed(text, ",", " ,", "")
            self.changed(text, ";", " ;", "")
            self.changed(text, ":", " :", ": ")
            self.changed(text, "-", " -", "- ", "--")

    def test_separators(self):
        for _, text in TEXTS:
            self.changed(text, "; ", ", ", ": ", " ", "; ; ", ";", " ; ", "\n", "- ")
            self.changed(text, ", ", "; ", ",", ", , ", " ", ",, ", " , ")
            self.changed(text, ":", "-", ";", ",", " ", "", "::", "=")
            self.changed(text, "-", ":", "_", ",", " ", "", "--", "\u2013", "\u2212")
        self.changed(GRID_TEXT, "shut 4 7", "shut 4, 7", "shut 4-7", "shut  4 7", "shut 4 7 ", "shut4 7", "shut 47", "shut:4 7")

    def test_signs_ahead_of_numbers(self):
        for _, text in TEXTS:
            for digit in "0123456789":
                if digit in text:
                    self.changed(text, digit, "+" + digit, "-" + digit, " " + digit, digit + ".0", digit + "_", "_" + digit)
                    self.changed(text, digit, "0x" + digit, digit + "e0", "'" + digit + "'", "(" + digit + ")")

    def test_zeros_ahead_of_numbers(self):
        self.changed(SQUARE_TEXT, "4;", "04;", "004;")
        self.changed(SQUARE_TEXT, "0-", "00-")
        self.changed(SQUARE_TEXT, "-1", "-01")
        self.changed(SQUARE_TEXT, ":2", ":02", ":002", ":0", ":00")
        self.changed(SQUARE_TEXT, "0, 3;", "00, 3;", "0, 03;")
        self.no(SQUARE_TEXT[:-1] + "00", SQUARE_TEXT[:-1] + "-0")
        self.changed(GRID_TEXT, "turn 0 1 2", "turn 00 1 2", "turn 0 01 2", "turn 0 1 02")
        self.changed(GRID_TEXT, "99", "099")
        self.changed(GRID_TEXT, "1, 3, 4;", "01, 3, 4;", "1, 03, 4;")

    def test_other_digits(self):
        # Digits of other scripts, in other places, and what is a digit but no decimal one.
        for _, text in TEXTS:
            for digit, others in (
                ("0", "\u0660\u0966\uff10\u2070"), ("1", "\u0661\u0967\uff11\u00b9\u2460\u2160"), ("2", "\u0662\uff12\u00b2"),
                ("3", "\u0663\uff13\u00b3"), ("7", "\u0667\uff17"),
            ):
                if digit in text:
                    self.changed(text, digit, *others)
        self.changed(LINE_TEXT, "7", "seven", "VII", "7.0", "1e0", "0b1", "\ud800", "", "x")

    def test_parts_more_or_less(self):
        for _, text in TEXTS:
            parts = text.split("; ")
            for at in range(6):
                self.no("; ".join(parts[:at] + parts[at + 1:]), "; ".join(parts[:at] + [parts[at]] + parts[at:]))
                self.no("; ".join(parts[:at] + ["none"] + parts[at:]), "; ".join(parts[:at] + [""] + parts[at:]))
            self.no(text + "; none", text + "; ", text + ";", "none; " + text, "; " + text, "; ".join(parts[::-1]))
        self.no("none; none; none; none; none; none", "; ; ; ; ; ", ";;;;;", "none")

    def test_empty_parts(self):
        for _, text in TEXTS:
            parts = text.split("; ")
            for at in range(6):
                self.no("; ".join(parts[:at] + [""] + parts[at + 1:]), "; ".join(parts[:at] + [" "] + parts[at + 1:]))
                for empty in ("[]", "()", "None", "none, none", "none,", "no", "none none", "NONE", "none "):
                    self.no("; ".join(parts[:at] + [empty] + parts[at + 1:]))

    def test_none_beside_an_item(self):
        for _, text in TEXTS:
            parts = text.split("; ")
            for at in range(1, 6):
                if parts[at] == "none":
                    continue
                for wrong in ("none, " + parts[at], parts[at] + ", none", parts[at].replace(", ", ", none, ", 1) + ", none"):
                    self.no("; ".join(parts[:at] + [wrong] + parts[at + 1:]))

    def test_none_where_there_must_be_items(self):
        self.changed(LINE_TEXT, "0-1:7", "none")
        self.changed(LINE_TEXT, "0, 1;", "none;")
        self.changed(LINE_TEXT, "2; ", "none; ", "; ", "")

    def test_order_of_the_items(self):
        self.changed(SQUARE_TEXT, "0-1:1, 0-2:2", "0-2:2, 0-1:1")
        self.changed(SQUARE_TEXT, "0-1:1", "1-0:1")
        self.changed(SQUARE_TEXT, "0, 3", "3, 0")
        self.changed(GRID_TEXT, "turn 0 1 2, turn 1 0 3", "turn 1 0 3, turn 0 1 2")
        self.changed(GRID_TEXT, "way 0 1, way 5 4", "way 5 4, way 0 1")
        self.changed(GRID_TEXT, "shut 4 7", "shut 7 4")
        self.changed(GRID_TEXT, "1, 3, 4;", "3, 1, 4;", "1, 4, 3;")
        self.changed(GRID_TEXT, "0, 1, 5, 13", "1, 0, 5, 13", "0, 1, 13, 5")

    def test_items_twice(self):
        self.changed(SQUARE_TEXT, "0-1:1", "0-1:1, 0-1:1", "0-1:1, 0-1:2")
        self.changed(SQUARE_TEXT, "0, 3", "0, 0, 3", "0, 3, 3")
        self.changed(GRID_TEXT, "way 0 1", "way 0 1, way 0 1")
        self.changed(GRID_TEXT, "1, 3, 4;", "1, 1, 3, 4;", "1, 3, 3;")
        self.changed(GRID_TEXT, "5, 13", "5, 5, 13")

    def test_upper_case_letters(self):
        for _, text in TEXTS:
            for old in ("none", "turn", "way", "shut"):
                if old in text:
                    self.changed(text, old, old.upper(), old.capitalize(), old[:-1] + old[-1].upper())
            if text.upper() != text:
                self.no(text.upper(), text.title(), text.capitalize() + "N", text.swapcase())

    def test_kinds_of_signs(self):
        for other in ("away", "way", "shut", "turns", "tur", "", "none", "turn turn", "0", "turn 0"):
            self.changed(LOLLIPOP_TEXT, "turn 0", other + " 0")
        self.changed(LOLLIPOP_TEXT, "turn 0 1 5", "turn 0 1", "turn 0 1 5 4", "turn", "turn ", "turn 0 1 0", "turn 0 5 1", "way 0 5")
        self.changed(LOLLIPOP_TEXT, "turn 0 1 5", "0 1 5", "0 1 5 turn", "('turn', 0, 1, 5)", "turn, 0 1 5")

    def test_streets(self):
        self.changed(LINE_TEXT, "0-1:7", "0-1", "0:7", "0-1:", "-1:7", "0-:7", ":7", "0-1:7:7", "0-1-1:7", "0:1-7", "0-0:7", "0 1 7")
        self.changed(LINE_TEXT, "0-1:7", "0-1:0", "0-1:100", "0-1:-7", "0-2:7", "1-2:7", "-0-1:7", "0-1:7, ", ", 0-1:7", "(0, 1, 7)")

    def test_texts_of_no_towns(self):
        self.changed(LINE_TEXT, "2;", "1;", "0;", "10;", "99;", "100;")
        self.assertEqual(parse_town(LINE_TEXT.replace("2;", "9;"))[0], 9)
        self.changed(LINE_TEXT, "0, 1;", "0;", "1;", "0, 2;", "0, 1, 2;")
        self.changed(LINE_TEXT, "none; none", "0; none", "none; 1", "2; none", "none; 0, 1")
        # No free drive from the gate 0 to the gate 1.
        self.changed(LINE_TEXT, "none; 0, 1", "way 0 1; 0, 1", "shut 0 1; 0, 1", "way 1 0; 0, 1")
        self.changed(SQUARE_TEXT, "none; 0, 3", "shut 0 1, shut 0 2; 0, 3", "way 0 3; 0, 3")
        self.changed(GRID_TEXT, "way 0 1, way 5 4", "way 0 1, way 5 4, way 7 8")
        self.changed(GRID_TEXT, "7-8:1;", "7-8:1, 7-9:1;")

    def test_other_things(self):
        self.no("", " ", "none", "town", SQUARE_TEXT[:-1], SQUARE_TEXT + ", ", SQUARE_TEXT * 2, "2", str(SQUARE), repr(SQUARE_TEXT))
        self.no("9" * 10000, ", " * 10000, "; " * 10000, "2; " + "0-1:7, " * 10000, LINE_TEXT.replace("7", "7" * 10000))
        for value in (
            *WRONG, SQUARE, LINE, list(LINE_TEXT), (LINE_TEXT,), [LINE_TEXT], LINE_TEXT.encode(), bytearray(LINE_TEXT.encode()),
            0, 1, 7, -1, 10 ** 30, True, False, None, Agreeable(), Touchy(), Agreeable, str,
        ):
            with self.subTest(value=type(value)):
                self.assertRaises(ParseError, parse_town, value)
