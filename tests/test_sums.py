import itertools
import os
import sys
import unittest

# The folder of the tests is no package: so the file beside this one is found from wherever the tests are run.
sys.path.insert(0, os.path.dirname(os.path.abspath(__file__)))

from examples import ALL_WAYS, BALANCED, BINARY, NEGABINARY, NEVER_ROWS, TEN, Assertions
from examples import all_rows, made_row, plain_follower, plain_value, plain_walk
from digitways.errors import NoDigits, NoRow
from digitways.rows import added, carries, is_row, multiplied, row_of, value

LENGTHS = (0, 1, 2, 9, 31, 60, 63)

SHORT_WAYS = (BINARY, NEGABINARY, BALANCED, (-3, (0, 1, 35)), (3, (0, 25, 38)), (3, (0, 4, -1)))

FUNCTIONS = {"added": added, "multiplied": multiplied, "carries": carries}


def pairs_of_rows(way):
    """Rows of like and unlike lengths, up to 60 digits and somewhat beyond."""
    return [
        (made_row(way, length, seed), made_row(way, other_length, seed + 100))
        for length in LENGTHS
        for other_length in LENGTHS
        for seed in (1, 2)
    ]


def without_noughts_at_the_end(digits):
    told = list(digits)
    while told and told[-1] == 0:
        told.pop()
    return told


class NoWayTest(Assertions, unittest.TestCase):

    def test_of_rows(self):
        for name, asked in FUNCTIONS.items():
            for one, other in (([], []), ([1], []), ([], [1]), ([1], [1]), ([1, -1, 1], [0, 1])):
                with self.subTest(function=name, one=one, other=other):
                    self.assert_no_way_refused(lambda way: asked(way, one, other))

    def test_ahead_of_no_row(self):
        for name, asked in FUNCTIONS.items():
            for row in NEVER_ROWS:
                with self.subTest(function=name):
                    self.assert_no_way_refused(lambda way: asked(way, row, [1]))
                    self.assert_no_way_refused(lambda way: asked(way, [1], row))
                    self.assert_no_way_refused(lambda way: asked(way, row, row))


class NoRowTest(Assertions, unittest.TestCase):

    def test_the_first_the_second_and_both(self):
        for name, asked in FUNCTIONS.items():
            for way in list(ALL_WAYS.values())[::2]:
                good = made_row(way, 3, 5)
                for number, wrong in enumerate(NEVER_ROWS + [good + [0], [way[0] * 41] + good, good + [41]]):
                    with self.subTest(function=name, way=way, number=number):
                        self.assert_refused(NoRow, lambda: asked(way, wrong, good))
                        self.assert_refused(NoRow, lambda: asked(way, good, wrong))
                        self.assert_refused(NoRow, lambda: asked(way, wrong, wrong))
                        self.assert_refused(NoRow, lambda: asked(way, wrong, []))
                        self.assert_refused(NoRow, lambda: asked(way, [], wrong))
                        self.assert_refused(NoRow, lambda: asked(way, wrong, [0]))
                        self.assert_refused(NoRow, lambda: asked(way, [0], wrong))

    def test_what_is_no_digit_at_each_place_of_a_long_row(self):
        for name, asked in FUNCTIONS.items():
            for place in range(60):
                wrong = made_row(BALANCED, 60, place)
                wrong[place] = 2
                with self.subTest(function=name, place=place):
                    self.assert_refused(NoRow, lambda: asked(BALANCED, wrong, [1]))
                    self.assert_refused(NoRow, lambda: asked(BALANCED, [1], wrong))

    def test_ahead_of_no_digits(self):
        # By these ways the number that the lists would make has no row.
        examples = [
            (added, TEN, [-1], []),
            (added, TEN, [1], [-2]),
            (added, TEN, [-1, 0], [0]),
            (added, (3, (0, 4, -1)), [-1], [-1, 0]),
            (multiplied, TEN, [-1], [1]),
            (multiplied, TEN, [1], [-1]),
            (multiplied, (2, (-1, 0)), [-1], [-1, 0]),
            (multiplied, (2, (-1, 0)), [-1, 0], [-1]),
        ]
        for asked, way, one, other in examples:
            with self.subTest(way=way, one=one, other=other):
                self.assert_refused(NoRow, lambda: asked(way, one, other))


class AddedAndMultipliedTest(Assertions, unittest.TestCase):

    def assert_sum_and_product(self, way, one, other):
        first = plain_value(way, one)
        second = plain_value(way, other)
        self.assert_tells(way, first + second, lambda: added(way, one, other))
        self.assert_tells(way, first + second, lambda: added(way, other, one))
        self.assert_tells(way, first * second, lambda: multiplied(way, one, other))
        self.assert_tells(way, first * second, lambda: multiplied(way, other, one))

    def test_told_examples(self):
        examples = [
            (TEN, [9, 9], [1], [0, 0, 1], [9, 9]),
            (TEN, [2, 1], [3, 1], [5, 2], [6, 5, 1]),
            (TEN, [9] * 60, [1], [0] * 60 + [1], [9] * 60),
            (NEGABINARY, [1], [1], [0, 1, 1], [1]),
            (NEGABINARY, [1, 1], [1], [], [1, 1]),
            (NEGABINARY, [1, 1], [1, 1], [0, 1], [1]),
            (BALANCED, [1], [1], [-1, 1], [1]),
            (BALANCED, [-1, 1], [-1, 1], [1, 1], [1, 1]),
            (BALANCED, [1, -1], [-1, 1], [], [-1, -1]),
            (BALANCED, [1] * 60, [1], [-1] * 60 + [1], [1] * 60),
            (BALANCED, [1] * 60, [-1] * 60, [], None),
        ]
        for way, one, other, total, product in examples:
            with self.subTest(way=way, one=one, other=other):
                self.assertEqual(added(way, one, other), total)
                self.assertEqual(added(way, other, one), total)
                if product is not None:
                    self.assertEqual(multiplied(way, one, other), product)
                    self.assertEqual(multiplied(way, other, one), product)

    def test_told_examples_of_numbers_without_digits(self):
        examples = [
            (added, (3, (0, -11, -7)), [-11], [-11], [4, 5]),
            (added, (3, (0, 31, 35)), [31], [31, 31], [-17, -16]),
            (added, (-3, (0, 1, 35)), [1], [1, 1], [-4, 13]),
            (added, (3, (0, 4, -1)), [-1], [-1], [-2]),
            (added, (3, (0, 25, 38)), [25], [38], [-17, -14, -13]),
            (multiplied, (2, (-1, 0)), [-1], [-1], [1]),
            (multiplied, (2, (-1, 0)), [-1] * 60, [-1] * 60, [1]),
            (multiplied, (4, (0, -39, -2, 11)), [11], [11, 11], [13]),
            (multiplied, (3, (0, -11, -7)), [-11], [-7], [4, 5]),
            (multiplied, (-3, (0, 1, 35)), [1, 1], [1, 1], [-4, 13]),
        ]
        for asked, way, one, other, members in examples:
            with self.subTest(way=way, one=one, other=other):
                for refused in (lambda: asked(way, one, other), lambda: asked(way, other, one)):
                    refusal = self.assert_refused(NoDigits, refused)
                    self.assert_ring(way, refusal.ring)
                    self.assertEqual(sorted(refusal.ring), members)

    def test_long_and_short_rows_by_all_ways(self):
        for name, way in ALL_WAYS.items():
            for one, other in pairs_of_rows(way):
                with self.subTest(way=name, one=one, other=other):
                    self.assert_sum_and_product(way, one, other)

    def test_every_pair_of_short_rows(self):
        for way in SHORT_WAYS:
            for one, other in itertools.product(all_rows(way, 3), repeat=2):
                with self.subTest(way=way, one=one, other=other):
                    total = plain_value(way, one) + plain_value(way, other)
                    product = plain_value(way, one) * plain_value(way, other)
                    self.assert_tells(way, total, lambda: added(way, one, other))
                    self.assert_tells(way, product, lambda: multiplied(way, one, other))

    def test_empty_rows(self):
        for name, way in ALL_WAYS.items():
            for length in LENGTHS:
                row = made_row(way, length, 7)
                with self.subTest(way=name, length=length):
                    self.assertEqual(added(way, row, []), row)
                    self.assertEqual(added(way, [], row), row)
                    self.assertEqual(multiplied(way, row, []), [])
                    self.assertEqual(multiplied(way, [], row), [])

    def test_one_list_handed_in_twice(self):
        for name, way in ALL_WAYS.items():
            for length in LENGTHS:
                row = made_row(way, length, 8)
                with self.subTest(way=name, length=length):
                    self.assert_sum_and_product(way, row, row)

    def test_the_longest_products(self):
        for name, way in ALL_WAYS.items():
            largest = max(way[1], key=abs)
            row = [largest] * 60
            with self.subTest(way=name):
                self.assert_sum_and_product(way, row, row)

    def test_the_told_row_has_the_value(self):
        for name, way in ALL_WAYS.items():
            for one, other in pairs_of_rows(way)[::5]:
                product = value(way, one) * value(way, other)
                if plain_walk(way, product)[0] is not None:
                    with self.subTest(way=name, one=one, other=other):
                        told = multiplied(way, one, other)
                        self.assertIs(is_row(way, told), True)
                        self.assertEqual(value(way, told), product)


class CarriesTest(Assertions, unittest.TestCase):

    def assert_carries(self, way, one, other):
        told = carries(way, one, other)
        longer = max(len(one), len(other))
        self.assertIs(type(told), list)
        self.assertTrue(all(type(carry) is int for carry in told))
        self.assertEqual(len(told), longer + 1)
        self.assertEqual(told[0], 0)
        digits = []
        for place in range(longer):
            number = (one + [0] * longer)[place] + (other + [0] * longer)[place] + told[place]
            self.assertEqual(told[place + 1], plain_follower(way, number))
            digits.append(number - plain_follower(way, number) * way[0])
        self.assertEqual(carries(way, other, one), told)
        self.assert_sum_of_digits_and_last_carry(way, one, other, digits, told[-1])

    def assert_sum_of_digits_and_last_carry(self, way, one, other, digits, last):
        rest, members = plain_walk(way, last)
        if rest is None:
            for asked in (lambda: added(way, one, other), lambda: row_of(way, last)):
                self.assertEqual(sorted(self.assert_refused(NoDigits, asked).ring), sorted(members))
        else:
            self.assertEqual(row_of(way, last), rest)
            self.assertEqual(added(way, one, other), without_noughts_at_the_end(digits + rest))

    def test_both_empty(self):
        for name, way in ALL_WAYS.items():
            with self.subTest(way=name):
                self.assertEqual(carries(way, [], []), [0])
                self.assert_carries(way, [], [])

    def test_one_empty(self):
        for name, way in ALL_WAYS.items():
            for length in LENGTHS:
                row = made_row(way, length, 9)
                with self.subTest(way=name, length=length):
                    self.assertEqual(carries(way, row, []), [0] * (length + 1))
                    self.assertEqual(carries(way, [], row), [0] * (length + 1))

    def test_told_examples(self):
        examples = [
            (BINARY, [1, 1], [1], [0, 1, 1]),
            (BINARY, [1, 0, 1], [1], [0, 1, 0, 0]),
            (TEN, [9, 9, 9], [1], [0, 1, 1, 1]),
            (TEN, [5, 4, 3], [5, 5, 1], [0, 1, 1, 0]),
            (TEN, [9] * 60, [9] * 60, [0] + [1] * 60),
            (NEGABINARY, [1], [1], [0, -1]),
            (NEGABINARY, [1, 1], [1], [0, -1, 0]),
            (NEGABINARY, [1, 1], [1, 1], [0, -1, 0]),
            (NEGABINARY, [0, 1], [0, 1], [0, 0, -1]),
            (BALANCED, [1], [1], [0, 1]),
            (BALANCED, [-1, -1], [-1], [0, -1, -1]),
            (BALANCED, [1, -1], [-1, 1], [0, 0, 0]),
            ((3, (0, 1, -7)), [1], [1], [0, 3]),
            ((3, (0, 4, -1)), [-1], [-1], [0, -2]),
            ((3, (0, -11, -7)), [-11], [-11], [0, -5]),
            ((2, (0, 37)), [37, 37], [37], [0, 37, 37]),
        ]
        for way, one, other, told in examples:
            with self.subTest(way=way, one=one, other=other):
                self.assertEqual(carries(way, one, other), told)
                self.assert_carries(way, one, other)

    def test_long_and_short_rows_by_all_ways(self):
        for name, way in ALL_WAYS.items():
            for one, other in pairs_of_rows(way):
                with self.subTest(way=name, one=one, other=other):
                    self.assert_carries(way, one, other)

    def test_every_pair_of_short_rows(self):
        for way in SHORT_WAYS:
            for one, other in itertools.product(all_rows(way, 3), repeat=2):
                with self.subTest(way=way, one=one, other=other):
                    self.assert_carries(way, one, other)

    def test_one_list_handed_in_twice(self):
        for name, way in ALL_WAYS.items():
            row = made_row(way, 60, 10)
            with self.subTest(way=name):
                self.assert_carries(way, row, row)

    def test_told_where_the_sum_has_no_row(self):
        for way, one, other, told in (
            ((3, (0, 4, -1)), [-1], [-1], [0, -2]),
            ((3, (0, -11, -7)), [-11], [-7], [0, -6]),
            ((-3, (0, 1, 35)), [1], [1, 1], [0, 11, -4]),
        ):
            with self.subTest(way=way):
                self.assert_refused(NoDigits, lambda: added(way, one, other))
                self.assertEqual(carries(way, one, other), told)


class HandedInTest(Assertions, unittest.TestCase):

    def test_lists_handed_in_stay_as_they_were(self):
        for name, asked in FUNCTIONS.items():
            for way, one, other in ((TEN, [9, 9], [1]), (TEN, [], [1]), (TEN, [], []), (BALANCED, [1] * 60, [-1] * 7)):
                kept_one = list(one)
                kept_other = list(other)
                with self.subTest(function=name, way=way, one=kept_one, other=kept_other):
                    told = asked(way, one, other)
                    self.assertEqual((one, other), (kept_one, kept_other))
                    kept = list(told)
                    told.append(5)
                    self.assertEqual((one, other), (kept_one, kept_other))
                    self.assertEqual(asked(way, one, other), kept)

    def test_lists_that_are_refused_stay_as_they_were(self):
        for name, asked in FUNCTIONS.items():
            for one, other in (([9, 0], [1]), ([1], [9, 0, 0]), ([0], [0])):
                kept_one = list(one)
                kept_other = list(other)
                with self.subTest(function=name, one=kept_one, other=kept_other):
                    self.assertRaises(NoRow, asked, TEN, one, other)
                    self.assertEqual((one, other), (kept_one, kept_other))

    def test_what_was_told_stays_where_what_was_handed_in_is_changed_later(self):
        for name, asked in FUNCTIONS.items():
            for one, other in (([9, 9], [1]), ([9, 9], []), ([], [9, 9]), ([], []), ([1], [5])):
                with self.subTest(function=name, one=list(one), other=list(other)):
                    told = asked(TEN, one, other)
                    kept = list(told)
                    self.assertIsNot(told, one)
                    self.assertIsNot(told, other)
                    one.append(7)
                    other.append(7)
                    self.assertEqual(told, kept)

    def test_each_told_list_is_one_of_its_own(self):
        for name, asked in FUNCTIONS.items():
            for one, other in (([9, 9], [1]), ([9, 9], []), ([], [])):
                with self.subTest(function=name, one=one, other=other):
                    told = asked(TEN, one, other)
                    again = asked(TEN, one, other)
                    self.assertIsNot(told, again)
                    kept = list(again)
                    told.append(3)
                    self.assertEqual(again, kept)
                    self.assertEqual(asked(TEN, one, other), kept)

    def test_each_ring_borne_is_a_list_of_its_own(self):
        way = (3, (0, -11, -7))
        for asked in (added, multiplied):
            refusals = [self.assert_refused(NoDigits, lambda: asked(way, [-11], [-11])) for time in range(2)]
            refusals[0].ring.append(0)
            self.assertEqual(sorted(refusals[1].ring), [4, 5])
            self.assertEqual(sorted(self.assert_refused(NoDigits, lambda: asked(way, [-11], [-11])).ring), [4, 5])


if __name__ == "__main__":
    unittest.main()
