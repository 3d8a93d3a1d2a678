import os
import sys
import unittest

# The folder of the tests is no package: so the file beside this one is found from wherever the tests are run.
sys.path.insert(0, os.path.dirname(os.path.abspath(__file__)))

from examples import ALL_WAYS, BALANCED, BINARY, NEGABINARY, NEVER_ROWS, TEN, Assertions
from examples import all_rows, made_row
from digitways.errors import NoNote, NoRow
from digitways.notes import read, shown
from digitways.rows import is_row

NEGATEN = (-10, tuple(range(10)))
FAR = (3, (0, 40, -40))
TWELVE = (-12, tuple(range(12)))

LENGTHS = (0, 1, 2, 3, 13, 60, 64)

NOTES = [
    (NEGABINARY, [0, 1, 1], "-2: 1 1 0"),
    (BALANCED, [], "3: 0"),
    (NEGABINARY, [], "-2: 0"),
    (TWELVE, [], "-12: 0"),
    (BINARY, [1], "2: 1"),
    (BINARY, [0, 1], "2: 1 0"),
    (BINARY, [0, 0, 1], "2: 1 0 0"),
    (BALANCED, [-1], "3: -1"),
    (BALANCED, [1, 0, -1], "3: -1 0 1"),
    (BALANCED, [-1, -1, 1], "3: 1 -1 -1"),
    (TEN, [4, 3, 2, 1], "10: 1 2 3 4"),
    (TEN, [0] * 30 + [1], "10: 1" + " 0" * 30),
    (NEGATEN, [9, 1], "-10: 1 9"),
    (TWELVE, [10, 0, 11], "-12: 11 0 10"),
    (FAR, [40, 0, -40], "3: -40 0 40"),
    (FAR, [-40, 40], "3: 40 -40"),
    ((-3, (40, -40, 0)), [-40, 40], "-3: 40 -40"),
    ((2, (39, 0)), [39] * 60, "2:" + " 39" * 60),
]

# Each of these is near to a note by the way and is none.
WRONG_NOTES = {
    "a needless 0 ahead of the digits": [
        (NEGABINARY, "-2: 0 1 1 0"),
        (NEGABINARY, "-2: 0 0 1 1 0"),
        (BINARY, "2: 0 1"),
        (BALANCED, "3: 0 -1"),
        (BALANCED, "3: 0 0"),
        (BALANCED, "3: 0 0 0"),
        (TEN, "10:" + " 0" * 60),
        (TEN, "10: 0" + " 9" * 60),
    ],
    "a needless 0 ahead of a number": [
        (NEGABINARY, "-2: 01 1 0"),
        (NEGABINARY, "-2: 1 01 0"),
        (NEGABINARY, "-2: 1 1 00"),
        (NEGABINARY, "-02: 1 1 0"),
        (BALANCED, "03: 1"),
        (BALANCED, "3: -01"),
        (BALANCED, "3: 0-1"),
        (BALANCED, "3: 00"),
        (BALANCED, "3: 1 -01"),
        (TEN, "010: 1"),
        (TEN, "10: 09"),
        (FAR, "3: 040"),
        (FAR, "3: -040"),
    ],
    "a plus": [
        (BINARY, "+2: 1"),
        (BINARY, "2: +1"),
        (BINARY, "2: 1 +1"),
        (BINARY, "2: 1 +0"),
        (BINARY, "2: +0"),
        (NEGABINARY, "+-2: 1"),
        (BALANCED, "3: +-1"),
        (FAR, "3: +40"),
    ],
    "0 with a minus": [
        (BALANCED, "3: -0"),
        (BALANCED, "3: 1 -0"),
        (BALANCED, "3: -0 1"),
        (BALANCED, "3: 1 -0 1"),
        (NEGABINARY, "-2: -0"),
    ],
    "two minuses, or one in the wrong place": [
        (NEGABINARY, "--2: 1"),
        (NEGABINARY, "2-: 1"),
        (NEGABINARY, "- 2: 1"),
        (BALANCED, "3: --1"),
        (BALANCED, "3: - 1"),
        (BALANCED, "3: 1-"),
        (BALANCED, "3: -"),
        (BALANCED, "3: 1 -"),
        (BALANCED, "3: 1-1"),
        (BALANCED, "3: -1-1"),
    ],
    "a needless blank": [
        (BINARY, " 2: 1 0"),
        (BINARY, "2 : 1 0"),
        (BINARY, "2:  1 0"),
        (BINARY, "2: 1  0"),
        (BINARY, "2: 1   0"),
        (BINARY, "2: 1 0 "),
        (BINARY, "2: 1 0  "),
        (BINARY, "2:  0"),
        (BINARY, "2: 0 "),
        (BINARY, " 2: 0"),
        (BINARY, "2 : 0"),
        (TEN, "1 0: 1"),
        (FAR, "3: 4 0"),
        (FAR, "3: - 40"),
    ],
    "another blank": [
        (BINARY, "2:\t1 0"),
        (BINARY, "2: 1\t0"),
        (BINARY, "2:\n1 0"),
        (BINARY, "2: 1\n0"),
        (BINARY, "2: 1 0\n"),
        (BINARY, "2: 0\n"),
        (BINARY, "2: 1 0\t"),
        (BINARY, "2: 1 0\r\n"),
        (BINARY, "2: 1 0\r"),
        (BINARY, "\t2: 1 0"),
        (BINARY, "\n2: 1 0"),
        (BINARY, "2\n: 1 0"),
        (BINARY, "2: \t1"),
        (BINARY, "2: 1 \n0"),
        (BINARY, "2: 1\u00a00"),
        (BINARY, "2:\u00a01 0"),
        (BINARY, "2: 1\u20030"),
        (BINARY, "2: 1\x0b0"),
        (BINARY, "2: 1\x0c0"),
        (BINARY, "2: 1\x000"),
        (BINARY, "2: 1 0\x00"),
        (BINARY, "\ufeff2: 1 0"),
    ],
    "a missing colon or blank": [
        (BINARY, "2 1 0"),
        (BINARY, "2  1 0"),
        (BINARY, "2:1 0"),
        (BINARY, "2:0"),
        (BINARY, "2: 10"),
        (BINARY, "2: 11"),
        (BINARY, "2 0"),
        (BINARY, "21 0"),
        (BINARY, "1 0"),
        (BINARY, ": 1 0"),
        (BINARY, "0"),
        (BINARY, "1"),
        (TEN, "10: 1234"),
        (FAR, "3: 40-40"),
    ],
    "another sign in the place of a colon or a blank": [
        (BINARY, "2; 1 0"),
        (BINARY, "2. 1 0"),
        (BINARY, "2:: 1 0"),
        (BINARY, "2: : 1 0"),
        (BINARY, "2: 1: 0"),
        (BINARY, "2:, 1"),
        (BINARY, "2: 1,0"),
        (BINARY, "2: 1, 0"),
        (BINARY, "2: 1_0"),
        (BINARY, "2: 1 0."),
        (BINARY, "2: [1, 0]"),
        (BINARY, "2\uff1a 1 0"),
    ],
    "another base": [
        (BINARY, "-2: 1 0"),
        (BINARY, "3: 1 0"),
        (BINARY, "12: 1 0"),
        (BINARY, "22: 1 0"),
        (BINARY, "10: 1 0"),
        (BINARY, "20: 1 0"),
        (BINARY, "-2: 0"),
        (BINARY, "3: 0"),
        (BINARY, "0: 0"),
        (BINARY, "2.0: 1"),
        (BINARY, "two: 1"),
        (NEGABINARY, "2: 1 1 0"),
        (NEGABINARY, "-12: 1 1 0"),
        (NEGABINARY, "2: 0"),
        (TWELVE, "12: 11"),
        (TWELVE, "-1: 11"),
        (TEN, "1: 1"),
        (TEN, "-10: 1"),
        (TEN, "100: 1"),
        (TEN, "1_0: 1"),
        (TEN, "9" * 5000 + ": 1"),
    ],
    "a number that is no digit": [
        (BINARY, "2: 2"),
        (BINARY, "2: -1"),
        (BINARY, "2: 1 2"),
        (BINARY, "2: 2 1"),
        (BINARY, "2: 1 2 0"),
        (BALANCED, "3: 2"),
        (BALANCED, "3: 1 -2"),
        (TEN, "10: 10"),
        (TEN, "10: 1 -1"),
        (FAR, "3: 41"),
        (FAR, "3: 1"),
        (FAR, "3: 4"),
        (FAR, "3: -4"),
        (FAR, "3: 400"),
        (BINARY, "2: " + "9" * 5000),
        (BINARY, "2: 1 " + "-" + "9" * 5000),
        (BINARY, "2: " + "0" * 5000 + "1"),
    ],
    "no digits": [
        (BINARY, "2:"),
        (BINARY, "2: "),
        (BINARY, "2:  "),
        (BINARY, "2"),
        (NEGABINARY, "-2:"),
        (NEGABINARY, "-2: "),
        (NEGABINARY, "-2"),
        (NEGABINARY, "-"),
        (BINARY, ":"),
        (BINARY, ": "),
        (BINARY, " "),
        (BINARY, "\n"),
    ],
    "the empty text": [
        (BINARY, ""),
        (NEGABINARY, ""),
        (BALANCED, ""),
    ],
    "words": [
        (BINARY, "two: one"),
        (BINARY, "2: one"),
        (BINARY, "2: 1 one"),
        (BINARY, "2: x"),
        (BINARY, "2: None"),
        (BINARY, "2: []"),
        (BINARY, "2: 1 0 # one"),
        (BINARY, "words"),
        (BINARY, "2: 1 0 2: 1 0"),
        (BINARY, "2: 1 0\n2: 1 0"),
        (BINARY, "2: 0x1"),
        (BINARY, "2: 1.0"),
        (BINARY, "2: 1e0"),
        (BINARY, "(2, (0, 1)): 1"),
    ],
    "figures that are not 0 to 9": [
        (BINARY, "2: \u0661"),
        (BINARY, "2: 1 \u0660"),
        (BINARY, "2: \uff11"),
        (BINARY, "2: \u0967"),
        (BINARY, "2: \u00b9"),
        (BINARY, "2: \u2070"),
        (BINARY, "2: \u0660"),
        (BINARY, "\uff12: 1"),
        (BINARY, "\u0662: 1"),
        (BINARY, "\u00b2: 1"),
        (BINARY, "2: \U0001d7cf"),
        (TEN, "1\u0660: 1"),
        (TEN, "10: 1\u0661"),
        (NEGABINARY, "\u22122: 1"),
        (BALANCED, "3: \u22121"),
        (BALANCED, "3: \u20131"),
        (BALANCED, "3: \uff0d1"),
    ],
}


class NoWayTest(Assertions, unittest.TestCase):

    def test_shown(self):
        self.assert_no_way_refused(lambda way: shown(way, []))
        self.assert_no_way_refused(lambda way: shown(way, [1]))

    def test_shown_ahead_of_no_row(self):
        for row in NEVER_ROWS:
            self.assert_no_way_refused(lambda way: shown(way, row))

    def test_read(self):
        for text in ("2: 0", "2: 1", "-2: 1 1 0", "13: 1", "1: 0", "0: 0"):
            self.assert_no_way_refused(lambda way: read(way, text))

    def test_read_ahead_of_no_note(self):
        for text in ("", "2:", "2: 2", "2: 0 1", "words", "9" * 5000 + ": 1"):
            self.assert_no_way_refused(lambda way: read(way, text))


class ShownTest(Assertions, unittest.TestCase):

    def test_to_the_letter(self):
        for way, row, text in NOTES:
            with self.subTest(way=way, row=row):
                told = shown(way, row)
                self.assertIs(type(told), str)
                self.assertEqual(told, text)

    def test_every_base_and_its_digits(self):
        for size in range(2, 13):
            for base in (size, -size):
                way = (base, tuple(range(size)))
                row = list(range(size))
                with self.subTest(base=base):
                    self.assertEqual(shown(way, []), str(base) + ": 0")
                    self.assertEqual(shown(way, row), str(base) + ":" + "".join(" " + str(d) for d in row[::-1]))

    def test_every_digit(self):
        for entry in range(-39, 40, 2):
            for base in (2, -2):
                with self.subTest(base=base, entry=entry):
                    self.assertEqual(shown((base, (0, entry)), [entry]), str(base) + ": " + str(entry))

    def test_the_order_of_the_ways_digits_makes_no_difference(self):
        self.assertEqual(shown((3, (1, 0, -1)), [1, 0, -1]), "3: -1 0 1")
        self.assertEqual(shown((3, (0, -1, 1)), [1, 0, -1]), "3: -1 0 1")

    def test_no_row(self):
        for name, way in ALL_WAYS.items():
            good = made_row(way, 5, 2)
            for number, row in enumerate(NEVER_ROWS + [good + [0], good + [0, 0], good + [41], [-41] + good]):
                with self.subTest(way=name, number=number):
                    self.assert_refused(NoRow, lambda: shown(way, row))

    def test_no_digit_at_each_place(self):
        for place in range(60):
            row = made_row(BALANCED, 60, place)
            row[place] = 2
            with self.subTest(place=place):
                self.assert_refused(NoRow, lambda: shown(BALANCED, row))


class ReadTest(Assertions, unittest.TestCase):

    def test_to_the_letter(self):
        for way, row, text in NOTES:
            with self.subTest(way=way, text=text):
                told = read(way, text)
                self.assertIs(type(told), list)
                self.assertTrue(all(type(entry) is int for entry in told))
                self.assertEqual(told, row)

    def test_of_what_was_shown(self):
        for name, way in ALL_WAYS.items():
            for length in LENGTHS:
                for seed in range(3):
                    row = made_row(way, length, seed)
                    with self.subTest(way=name, row=row):
                        self.assertEqual(read(way, shown(way, row)), row)

    def test_of_every_short_row_shown(self):
        for way in (BINARY, NEGABINARY, BALANCED, FAR, (2, (-1, 0))):
            for row in all_rows(way, 4):
                with self.subTest(way=way, row=row):
                    self.assertEqual(read(way, shown(way, row)), row)

    def test_the_order_of_the_ways_digits_makes_no_difference(self):
        self.assertEqual(read((3, (1, 0, -1)), "3: -1 0 1"), [1, 0, -1])
        self.assertEqual(read((3, (0, -1, 1)), "3: -1 0 1"), [1, 0, -1])

    def test_what_is_no_note(self):
        for name, notes in WRONG_NOTES.items():
            for way, text in notes:
                with self.subTest(fault=name, way=way, text=text[:40]):
                    self.assert_refused(NoNote, lambda: read(way, text))

    def test_every_text_but_those_shown(self):
        way = (2, (0, -1))
        notes = {shown(way, row): row for row in all_rows(way, 3)}
        texts = [""]
        for length in range(7):
            texts = [text + sign for text in texts for sign in " -012:"]
            for text in texts:
                if text in notes:
                    self.assertEqual(read(way, text), notes[text])
                else:
                    self.assertRaises(NoNote, read, way, text)

    def test_one_sign_more_less_or_other(self):
        for way, row, text in NOTES[:11] + NOTES[12:17]:
            changed = {text[:place] + text[place + 1:] for place in range(len(text))}
            for sign in " -+0123:\n\t_":
                changed |= {text[:place] + sign + text[place:] for place in range(len(text) + 1)}
                changed |= {text[:place] + sign + text[place + 1:] for place in range(len(text))}
            for other in sorted(changed):
                with self.subTest(way=way, text=other):
                    try:
                        told = read(way, other)
                    except NoNote:
                        self.assertFalse(self.is_note(way, other))
                    else:
                        self.assertIs(is_row(way, told), True)
                        self.assertEqual(shown(way, told), other)

    def is_note(self, way, text):
        """By the words of the document, without asking the program."""
        if text == str(way[0]) + ": 0":
            return True
        front, colon, behind = text.partition(":")
        words = behind.split(" ")
        return (
            front == str(way[0])
            and len(words) > 1
            and words[0] == ""
            and words[1] != "0"
            and all(word in [str(entry) for entry in way[1]] for word in words[1:])
        )

    def test_a_note_by_another_way(self):
        self.assert_refused(NoNote, lambda: read(NEGABINARY, shown(BINARY, [1, 1])))
        self.assert_refused(NoNote, lambda: read(TEN, shown(NEGATEN, [1, 1])))
        self.assert_refused(NoNote, lambda: read(BINARY, shown((2, (0, -1)), [-1])))
        self.assertEqual(read((3, (0, 1, 2)), shown(BALANCED, [1, 1])), [1, 1])

    def test_what_is_no_note_stays_refused(self):
        for time in range(2):
            self.assertEqual(read(BINARY, "2: 1 0"), [0, 1])
            self.assert_refused(NoNote, lambda: read(BINARY, "2: 0 1"))


class HandedInTest(unittest.TestCase):

    def test_the_row_handed_in_stays_as_it_was(self):
        for row in ([4, 3, 2, 1], [7], []):
            kept = list(row)
            with self.subTest(row=kept):
                text = shown(TEN, row)
                self.assertEqual(row, kept)
                row.append(9)
                self.assertEqual(read(TEN, text), kept)

    def test_a_refused_row_stays_as_it_was(self):
        for row in ([4, 3, 0], [0], [10, 1]):
            kept = list(row)
            self.assertRaises(NoRow, shown, TEN, row)
            self.assertEqual(row, kept)

    def test_each_told_row_is_a_list_of_its_own(self):
        for text, row in (("10: 1 2", [2, 1]), ("10: 0", []), ("10: 7", [7])):
            with self.subTest(text=text):
                one = read(TEN, text)
                other = read(TEN, text)
                self.assertIsNot(one, other)
                one.append(5)
                self.assertEqual(other, row)
                self.assertEqual(read(TEN, text), row)
                one.clear()
                self.assertEqual(read(TEN, text), row)


if __name__ == "__main__":
    unittest.main()
