import itertools
import os
import sys
import unittest

# The folder of the tests is no package: so the file beside this one is found from wherever the tests are run.
sys.path.insert(0, os.path.dirname(os.path.abspath(__file__)))

from examples import ALL_WAYS, BALANCED, BINARY, NEGABINARY, NEVER_ROWS, NUMBERS, TEN, Assertions
from examples import all_rows, all_ways, is_whole, made_row, plain_value, plain_walk
from digitways.errors import NoDigits, NoRow
from digitways.rows import is_row, row_of, value
from digitways.ways import digit, follower, ring

LENGTHS = (0, 1, 2, 3, 7, 29, 59, 60, 61, 75)


def others_than_digits(way):
    near = [entry + step * way[0] for entry in way[1] for step in (1, -1)]
    return [entry for entry in near + [41, -41, 10 ** 30, -10 ** 30, 10 ** 5000] if entry not in way[1]]


class NoWayTest(Assertions, unittest.TestCase):

    def test_is_row(self):
        for row in ([], [1], [0, 1]) + tuple(NEVER_ROWS):
            self.assert_no_way_refused(lambda way: is_row(way, row))

    def test_value(self):
        self.assert_no_way_refused(lambda way: value(way, []))
        self.assert_no_way_refused(lambda way: value(way, [1, 1]))

    def test_value_ahead_of_no_row(self):
        for row in NEVER_ROWS:
            self.assert_no_way_refused(lambda way: value(way, row))

    def test_row_of(self):
        for number in (0, 1, -1, 5, 10 ** 30, -10 ** 30):
            self.assert_no_way_refused(lambda way: row_of(way, number))


class IsRowAndValueTest(Assertions, unittest.TestCase):

    def assert_row(self, way, row):
        self.assertIs(is_row(way, row), True)
        told = value(way, row)
        self.assertIs(type(told), int)
        self.assertEqual(told, plain_value(way, row))

    def assert_no_row(self, way, row):
        self.assertIs(is_row(way, row), False)
        self.assert_refused(NoRow, lambda: value(way, row))

    def test_the_empty_row(self):
        for name, way in ALL_WAYS.items():
            with self.subTest(way=name):
                self.assertIs(is_row(way, []), True)
                self.assertEqual(value(way, []), 0)
                self.assertIs(type(value(way, [])), int)

    def test_one_digit(self):
        for name, way in ALL_WAYS.items():
            for entry in range(-60, 61):
                with self.subTest(way=name, entry=entry):
                    if entry in way[1] and entry != 0:
                        self.assertIs(is_row(way, [entry]), True)
                        self.assertEqual(value(way, [entry]), entry)
                    else:
                        self.assert_no_row(way, [entry])

    def test_told_examples(self):
        examples = [
            (NEGABINARY, [0, 1, 1], 2),
            (NEGABINARY, [1, 1], -1),
            (NEGABINARY, [0, 1], -2),
            (NEGABINARY, [0] * 99 + [1], -2 ** 99),
            (NEGABINARY, [0] * 60 + [1], 2 ** 60),
            (BALANCED, [-1, -1, 1], 5),
            (BALANCED, [1, 1, -1], -5),
            (BALANCED, [1] * 60, (3 ** 60 - 1) // 2),
            (BALANCED, [-1] * 60, (1 - 3 ** 60) // 2),
            (TEN, [4, 3, 2, 1], 1234),
            (TEN, [0] * 30 + [1], 10 ** 30),
            (TEN, [9] * 60, 10 ** 60 - 1),
            ((10, tuple(range(-9, 1))), [-9] * 60, 1 - 10 ** 60),
            ((-10, tuple(range(10))), [9, 1], -1),
            ((-10, tuple(range(10))), [0, 9, 1], 10),
            ((3, (0, 40, -40)), [-40, 40], 80),
            ((3, (0, 40, -40)), [40, 0, -40], -320),
            ((2, (0, 37)), [37, 37, 0, 37], 407),
            ((12, tuple(range(12))), [11, 11], 143),
            ((-12, tuple(range(12))), [11, 11], -121),
        ]
        for way, row, told in examples:
            with self.subTest(way=way, row=row):
                self.assert_row(way, row)
                self.assertEqual(value(way, row), told)

    def test_rows_of_many_lengths(self):
        for name, way in ALL_WAYS.items():
            for length in LENGTHS:
                for seed in range(4):
                    with self.subTest(way=name, length=length, seed=seed):
                        self.assert_row(way, made_row(way, length, seed))

    def test_noughts_ahead_of_the_last_digit(self):
        for name, way in ALL_WAYS.items():
            for entry in [d for d in way[1] if d != 0]:
                for noughts in (1, 2, 30, 59, 60):
                    with self.subTest(way=name, entry=entry, noughts=noughts):
                        self.assert_row(way, [0] * noughts + [entry])
                        self.assert_row(way, [entry] + [0] * noughts + [entry])

    def test_every_short_list_of_small_numbers(self):
        for way in (BINARY, NEGABINARY, BALANCED, (-3, (0, 1, 2)), (2, (-1, 0)), (2, (0, 3)), (3, (0, 1, -4))):
            for length in range(4):
                for row in itertools.product(range(-4, 5), repeat=length):
                    with self.subTest(way=way, row=row):
                        if set(row) <= set(way[1]) and (not row or row[-1] != 0):
                            self.assert_row(way, list(row))
                        else:
                            self.assertIs(is_row(way, list(row)), False)
                            self.assertRaises(NoRow, value, way, list(row))

    def test_what_is_no_digit_at_each_place(self):
        for name, way in ALL_WAYS.items():
            wrong = others_than_digits(way)
            for length in (1, 2, 5, 60, 61):
                for place in range(length):
                    row = made_row(way, length, place)
                    row[place] = wrong[place % len(wrong)]
                    with self.subTest(way=name, length=length, place=place):
                        self.assertIs(is_row(way, row), False)
                        self.assertRaises(NoRow, value, way, row)

    def test_each_number_that_is_no_digit(self):
        for name, way in ALL_WAYS.items():
            digits = [entry for entry in way[1] if entry != 0]
            for number, wrong in enumerate(others_than_digits(way)):
                with self.subTest(way=name, number=number):
                    self.assert_no_row(way, [wrong])
                    self.assert_no_row(way, [wrong] + digits)
                    self.assert_no_row(way, digits + [wrong])
                    self.assert_no_row(way, digits + [wrong] + digits)
                    self.assert_no_row(way, [wrong] * 60)

    def test_nought_at_the_end(self):
        for name, way in ALL_WAYS.items():
            for length in (0, 1, 2, 30, 59, 60):
                for noughts in (1, 2, 3, 60):
                    with self.subTest(way=name, length=length, noughts=noughts):
                        self.assert_no_row(way, made_row(way, length, 3) + [0] * noughts)

    def test_no_digit_and_nought_at_the_end(self):
        for name, way in ALL_WAYS.items():
            for row in NEVER_ROWS:
                with self.subTest(way=name):
                    self.assert_no_row(way, row)
                    self.assert_no_row(way, row + [0])

    def test_the_order_of_the_ways_digits_makes_no_difference(self):
        for base, digits in ((3, (0, 25, -40)), (-4, (0, -3, 6, 11)), (4, (0, 9, -2, 3))):
            row = made_row((base, digits), 20, 1)
            for order in itertools.permutations(digits):
                with self.subTest(base=base, order=order):
                    self.assert_row((base, order), row)
                    self.assert_no_row((base, order), row + [0])
                    self.assert_no_row((base, order), row + [40])


class RowOfTest(Assertions, unittest.TestCase):

    def test_of_nought(self):
        for name, way in ALL_WAYS.items():
            with self.subTest(way=name):
                told = row_of(way, 0)
                self.assertIs(type(told), list)
                self.assertEqual(told, [])

    def test_told_examples(self):
        examples = [
            (NEGABINARY, 2, [0, 1, 1]),
            (NEGABINARY, -1, [1, 1]),
            (NEGABINARY, 3, [1, 1, 1]),
            (NEGABINARY, 2 ** 100, [0] * 100 + [1]),
            (NEGABINARY, -2 ** 101, [0] * 101 + [1]),
            (BALANCED, 5, [-1, -1, 1]),
            (BALANCED, -5, [1, 1, -1]),
            (BALANCED, (3 ** 60 - 1) // 2, [1] * 60),
            (TEN, 1234, [4, 3, 2, 1]),
            (TEN, 10 ** 30, [0] * 30 + [1]),
            (TEN, 10 ** 30 - 1, [9] * 30),
            ((10, tuple(range(-9, 1))), -10 ** 30, [0] * 30 + [-1]),
            ((-10, tuple(range(10))), -1, [9, 1]),
            ((-10, tuple(range(10))), 10, [0, 9, 1]),
            ((-10, tuple(range(10))), 10 ** 30, [0] * 30 + [1]),
            ((3, (0, 1, -7)), 2, [-7, 0, 1]),
            ((3, (0, 40, -40)), 80, [-40, 40]),
            ((2, (0, 37)), 407, [37, 37, 0, 37]),
        ]
        for way, number, row in examples:
            with self.subTest(way=way, number=number):
                self.assertEqual(row_of(way, number), row)

    def test_told_examples_of_numbers_without_digits(self):
        examples = [
            (TEN, -1, [-1]),
            (TEN, -10 ** 30, [-1]),
            (BINARY, -2, [-1]),
            ((2, (-1, 0)), 10 ** 30, [1]),
            ((3, (0, -11, -7)), 4, [4, 5]),
            ((3, (0, -11, -7)), 121, [4, 5]),
            ((-3, (0, 1, 35)), -1, [-4, 13]),
            ((3, (0, 4, -1)), -2, [-2]),
            ((3, (0, 25, 38)), -19, [-19]),
            ((3, (0, 25, 38)), 50, [-17, -14, -13]),
            ((3, (0, 22, 35)), -11, [-11]),
            ((3, (0, 22, 35)), 44, [-17, -16, -13]),
            ((2, (0, 37)), -37, [-37]),
        ]
        for way, number, members in examples:
            with self.subTest(way=way, number=number):
                refusal = self.assert_refused(NoDigits, lambda: row_of(way, number))
                self.assert_ring(way, refusal.ring)
                self.assertEqual(sorted(refusal.ring), members)

    def test_numbers_small_and_large_by_all_ways(self):
        for name, way in ALL_WAYS.items():
            for number in NUMBERS:
                with self.subTest(way=name, number=number):
                    self.assert_tells(way, number, lambda: row_of(way, number))

    def test_the_told_row_is_a_row_of_that_value(self):
        for name, way in ALL_WAYS.items():
            for number in NUMBERS:
                if plain_walk(way, number)[0] is not None:
                    with self.subTest(way=name, number=number):
                        told = row_of(way, number)
                        self.assertIs(is_row(way, told), True)
                        self.assertEqual(value(way, told), number)
                        self.assertEqual(plain_value(way, told), number)

    def test_the_told_digits_are_those_on_the_walk(self):
        for name, way in ALL_WAYS.items():
            for number in NUMBERS[::5]:
                if plain_walk(way, number)[0] is not None:
                    here = number
                    for entry in row_of(way, number):
                        with self.subTest(way=name, number=number, here=here):
                            self.assertNotEqual(here, 0)
                            self.assertEqual(entry, digit(way, here))
                            here = follower(way, here)
                    self.assertEqual(here, 0)

    def test_every_short_row_comes_back_from_its_value(self):
        for way in (BINARY, NEGABINARY, BALANCED, (-3, (0, 1, 35)), (3, (0, 25, 38)), (2, (0, 37)), (3, (0, 40, -40))):
            for row in all_rows(way, 5):
                with self.subTest(way=way, row=row):
                    self.assertEqual(row_of(way, value(way, row)), row)

    def test_long_rows_come_back_from_their_values(self):
        for name, way in ALL_WAYS.items():
            for length in LENGTHS:
                for seed in range(4):
                    row = made_row(way, length, seed)
                    with self.subTest(way=name, row=row):
                        self.assertEqual(row_of(way, value(way, row)), row)

    def test_a_number_far_beyond(self):
        for name, way in ALL_WAYS.items():
            for number in (10 ** 150, -10 ** 150):
                with self.subTest(way=name, number=number):
                    self.assert_tells(way, number, lambda: row_of(way, number))

    def test_the_order_of_the_ways_digits_makes_no_difference(self):
        for base, digits in ((3, (0, 1, -7)), (3, (0, 4, -1)), (-4, (0, -3, 6, 11)), (4, (0, -39, -2, 11))):
            for order in itertools.permutations(digits):
                for number in (-10 ** 30, -97, -2, -1, 0, 1, 2, 13, 44, 10 ** 30 + 1):
                    with self.subTest(base=base, order=order, number=number):
                        self.assert_tells((base, digits), number, lambda: row_of((base, order), number))


class WholeWaysTest(Assertions, unittest.TestCase):

    def test_a_whole_way_writes_every_number_and_another_leaves_its_ring_out(self):
        for way in all_ways(2) + all_ways(-2) + all_ways(3)[::7] + all_ways(-3)[::7] + all_ways(4, 9) + all_ways(-4, 9):
            told = ring(way)
            with self.subTest(way=way):
                self.assertEqual(told is None, is_whole(way))
                if told is None:
                    for number in list(range(-50, 51)) + [10 ** 30, -10 ** 30]:
                        self.assertEqual(plain_value(way, row_of(way, number)), number)
                else:
                    for number in told:
                        refusal = self.assert_refused(NoDigits, lambda: row_of(way, number))
                        self.assertEqual(sorted(refusal.ring), sorted(told))

    def test_digits_from_nought_on_by_bases_above_nought(self):
        for base in range(2, 13):
            way = (base, tuple(range(base)))
            with self.subTest(base=base):
                self.assertEqual(ring(way), [-1])
                for number in (-1, -base, -10 ** 30):
                    refusal = self.assert_refused(NoDigits, lambda: row_of(way, number))
                    self.assertEqual(refusal.ring, [-1])
                self.assertEqual(row_of(way, base), [0, 1])

    def test_digits_from_nought_down_by_bases_above_nought(self):
        for base in range(2, 13):
            way = (base, tuple(range(1 - base, 1)))
            with self.subTest(base=base):
                self.assertEqual(ring(way), [1])
                self.assertEqual(self.assert_refused(NoDigits, lambda: row_of(way, 1)).ring, [1])
                self.assertEqual(row_of(way, -1), [-1])

    def test_digits_from_nought_on_by_bases_below_nought(self):
        for size in range(2, 13):
            way = (-size, tuple(range(size)))
            with self.subTest(base=-size):
                self.assertIsNone(ring(way))
                self.assertEqual(row_of(way, -1), [size - 1, 1])
                self.assertEqual(row_of(way, -size), [0, 1])

    def test_digits_next_to_nought_on_both_sides_by_odd_bases(self):
        for size in (3, 5, 7, 9, 11):
            for base in (size, -size):
                way = (base, tuple(range(-(size // 2), size // 2 + 1)))
                with self.subTest(base=base):
                    self.assertIsNone(ring(way))
                    self.assertEqual(row_of(way, -1), [-1])
                    self.assertEqual(row_of(way, -base), [0, -1])


class HandedInTest(Assertions, unittest.TestCase):

    def test_lists_handed_in_stay_as_they_were(self):
        for way, row in ((TEN, [4, 3, 2, 1]), (BALANCED, made_row(BALANCED, 60, 1)), (TEN, []), (TEN, [1, 0, 0])):
            kept = list(row)
            with self.subTest(way=way, row=kept):
                told = is_row(way, row)
                self.assertEqual(row, kept)
                if told:
                    value(way, row)
                else:
                    self.assertRaises(NoRow, value, way, row)
                self.assertEqual(row, kept)

    def test_a_list_changed_later_is_asked_about_as_it_is_then(self):
        row = [4, 3]
        self.assertEqual(value(TEN, row), 34)
        row.append(0)
        self.assertIs(is_row(TEN, row), False)
        self.assertRaises(NoRow, value, TEN, row)
        row[2] = 9
        self.assertIs(is_row(TEN, row), True)
        self.assertEqual(value(TEN, row), 934)
        row.clear()
        self.assertEqual(value(TEN, row), 0)

    def test_each_told_row_is_a_list_of_its_own(self):
        for number in (0, 7, 1234, 10 ** 30):
            with self.subTest(number=number):
                one = row_of(TEN, number)
                other = row_of(TEN, number)
                self.assertIsNot(one, other)
                kept = list(other)
                one.append(8)
                self.assertEqual(other, kept)
                self.assertEqual(row_of(TEN, number), kept)
                one.clear()
                self.assertEqual(row_of(TEN, number), kept)

    def test_each_ring_borne_is_a_list_of_its_own(self):
        for way, number in ((TEN, -1), ((3, (0, -11, -7)), 4), ((3, (0, 19, 35)), -17)):
            with self.subTest(way=way):
                one = self.assert_refused(NoDigits, lambda: row_of(way, number))
                other = self.assert_refused(NoDigits, lambda: row_of(way, number))
                self.assertIsNot(one.ring, other.ring)
                kept = list(other.ring)
                told = ring(way)
                one.ring.append(0)
                told.append(0)
                self.assertEqual(other.ring, kept)
                self.assert_tells(way, number, lambda: row_of(way, number))
                self.assert_ring(way, ring(way))

    def test_the_way_stays_as_it_was(self):
        digits = (25, 0, -40)
        way = (3, digits)
        row_of(way, 25)
        is_row(way, [25])
        value(way, [25])
        self.assertEqual(way, (3, (25, 0, -40)))
        self.assertIs(way[1], digits)


if __name__ == "__main__":
    unittest.main()
