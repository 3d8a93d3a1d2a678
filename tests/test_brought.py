import itertools
import os
import sys
import unittest

# The folder of the tests is no package: so the file beside this one is found from wherever the tests are run.
sys.path.insert(0, os.path.dirname(os.path.abspath(__file__)))

from examples import ALL_WAYS, BALANCED, BINARY, NEGABINARY, NEVER_ROWS, NUMBERS, TEN, Assertions
from examples import all_ways, made_row, plain_value, plain_walk
from digitways.errors import NoDigits, NoRow, NoWay
from digitways.rows import brought, is_row, row_of, value
from digitways.ways import alike, mirrored, ring

LENGTHS = (0, 1, 2, 13, 60, 62)


class NoWayTest(Assertions, unittest.TestCase):

    def test_the_first_way(self):
        self.assert_no_way_refused(lambda way: brought(way, BALANCED, []))
        self.assert_no_way_refused(lambda way: brought(way, BALANCED, [1]))

    def test_the_second_way(self):
        self.assert_no_way_refused(lambda way: brought(BALANCED, way, []))
        self.assert_no_way_refused(lambda way: brought(BALANCED, way, [1]))

    def test_both_ways(self):
        self.assert_no_way_refused(lambda way: brought(way, way, []))
        self.assert_no_way_refused(lambda way: brought(way, (1, (0,)), [1]))
        self.assert_no_way_refused(lambda way: brought((1, (0,)), way, [1]))

    def test_ahead_of_no_row(self):
        for row in NEVER_ROWS:
            self.assert_no_way_refused(lambda way: brought(way, TEN, row))
            self.assert_no_way_refused(lambda way: brought(TEN, way, row))
            self.assert_no_way_refused(lambda way: brought(way, way, row))

    def test_the_first_way_is_refused_ahead(self):
        wrong_base = (13, (0, 1))
        wrong_digits = (2, (0, 2))
        base_words = str(self.assert_refused(NoWay, lambda: mirrored(wrong_base)))
        digit_words = str(self.assert_refused(NoWay, lambda: mirrored(wrong_digits)))
        self.assertNotEqual(base_words, digit_words)
        for one, other, words in ((wrong_base, wrong_digits, base_words), (wrong_digits, wrong_base, digit_words)):
            self.assertEqual(str(self.assert_refused(NoWay, lambda: brought(one, other, [1, 0]))), words)


class BroughtTest(Assertions, unittest.TestCase):

    def test_told_examples(self):
        examples = [
            (TEN, NEGABINARY, [2], [0, 1, 1]),
            (NEGABINARY, TEN, [0, 1, 1], [2]),
            (TEN, BALANCED, [5], [-1, -1, 1]),
            (BALANCED, NEGABINARY, [-1], [1, 1]),
            (NEGABINARY, BALANCED, [1, 1], [-1]),
            (TEN, BINARY, [4, 2, 0, 1], [0] * 10 + [1]),
            (BINARY, TEN, [0] * 10 + [1], [4, 2, 0, 1]),
            (TEN, (12, tuple(range(12))), [3, 4, 1], [11, 11]),
            (TEN, (3, (0, 1, -7)), [2], [-7, 0, 1]),
        ]
        for way, other_way, row, told in examples:
            with self.subTest(way=way, other_way=other_way, row=row):
                self.assertEqual(brought(way, other_way, row), told)

    def test_told_examples_of_numbers_without_digits(self):
        examples = [
            (NEGABINARY, TEN, [1, 1], [-1]),
            (BALANCED, TEN, [0, -1], [-1]),
            (TEN, (2, (-1, 0)), [1], [1]),
            (TEN, (3, (0, -11, -7)), [4], [4, 5]),
            (TEN, (3, (0, 25, 38)), [0, 5], [-17, -14, -13]),
            ((3, (0, -11, -7)), (3, (0, 31, 35)), [-11], [-17, -16]),
            ((3, (0, 31, 35)), (3, (0, -11, -7)), [31], [4, 5]),
        ]
        for way, other_way, row, members in examples:
            with self.subTest(way=way, other_way=other_way, row=row):
                refusal = self.assert_refused(NoDigits, lambda: brought(way, other_way, row))
                self.assert_ring(other_way, refusal.ring)
                self.assertEqual(sorted(refusal.ring), members)

    def test_from_each_way_to_each(self):
        for (name, way), (other_name, other_way) in itertools.product(ALL_WAYS.items(), repeat=2):
            for length in LENGTHS:
                row = made_row(way, length, 11)
                with self.subTest(way=name, other_way=other_name, row=row):
                    self.assert_tells(other_way, plain_value(way, row), lambda: brought(way, other_way, row))

    def test_to_the_way_itself(self):
        for name, way in ALL_WAYS.items():
            for length in LENGTHS:
                row = made_row(way, length, 12)
                with self.subTest(way=name, row=row):
                    told = brought(way, way, row)
                    self.assertEqual(told, row)
                    self.assertIsNot(told, row)

    def test_to_another_way_and_back(self):
        for (name, way), (other_name, other_way) in itertools.product(ALL_WAYS.items(), repeat=2):
            for length in LENGTHS:
                row = made_row(way, length, 13)
                if plain_walk(other_way, plain_value(way, row))[0] is not None:
                    with self.subTest(way=name, other_way=other_name, row=row):
                        there = brought(way, other_way, row)
                        self.assertIs(is_row(other_way, there), True)
                        self.assertEqual(value(other_way, there), value(way, row))
                        self.assertEqual(brought(other_way, way, there), row)

    def test_whole_ways_are_met_and_others(self):
        whole = [way for way in ALL_WAYS.values() if ring(way) is None]
        others = [way for way in ALL_WAYS.values() if ring(way) is not None]
        self.assertGreater(len(whole), 5)
        self.assertGreater(len(others), 5)
        for way in whole:
            for other_way in others:
                for number in ring(other_way):
                    with self.subTest(way=way, other_way=other_way, number=number):
                        row = row_of(way, number)
                        refusal = self.assert_refused(NoDigits, lambda: brought(way, other_way, row))
                        self.assert_ring(other_way, refusal.ring)
                        self.assertIn(number, refusal.ring)

    def test_no_row_by_the_first_way(self):
        examples = [
            (TEN, BALANCED, [-1]),
            (BALANCED, TEN, [2]),
            (BALANCED, TEN, [9] * 60),
            (NEGABINARY, (-2, (0, -1)), [-1]),
            (TEN, TEN, [1, 0]),
            (TEN, BINARY, [1, 10]),
        ]
        for way, other_way, row in examples:
            with self.subTest(way=way, other_way=other_way, row=row):
                self.assert_refused(NoRow, lambda: brought(way, other_way, row))

    def test_never_rows(self):
        for name, way in ALL_WAYS.items():
            for number, row in enumerate(NEVER_ROWS):
                with self.subTest(way=name, number=number):
                    self.assert_refused(NoRow, lambda: brought(way, TEN, row))
                    self.assert_refused(NoRow, lambda: brought(TEN, way, row))
                    self.assert_refused(NoRow, lambda: brought(way, way, row))

    def test_no_row_ahead_of_no_digits(self):
        # The number that the list would make has no row by the second way.
        for way, other_way, row in ((TEN, TEN, [-1]), (BALANCED, TEN, [-1, 0]), (BALANCED, (2, (-1, 0)), [2])):
            with self.subTest(way=way, other_way=other_way, row=row):
                self.assert_refused(NoRow, lambda: brought(way, other_way, row))

    def test_what_is_no_row_by_the_second_way_is_brought(self):
        self.assertEqual(brought(TEN, BALANCED, [9]), [0, 0, 1])
        self.assertEqual(brought(BALANCED, NEGABINARY, [-1, 1]), [0, 1, 1])


class MirroredTest(Assertions, unittest.TestCase):

    def test_digits_less_nought_are_the_row_of_the_number_less_nought(self):
        for name, way in ALL_WAYS.items():
            other_way = mirrored(way)
            for length in LENGTHS:
                row = made_row(way, length, 14)
                turned = [-entry for entry in row]
                with self.subTest(way=name, row=row):
                    self.assertIs(is_row(other_way, turned), True)
                    self.assertEqual(value(other_way, turned), -value(way, row))
                    self.assertEqual(row_of(other_way, -value(way, row)), turned)

    def test_numbers_with_digits_and_without(self):
        for name, way in ALL_WAYS.items():
            other_way = mirrored(way)
            for number in NUMBERS[::3]:
                row, members = plain_walk(way, number)
                with self.subTest(way=name, number=number):
                    if row is None:
                        refusal = self.assert_refused(NoDigits, lambda: row_of(other_way, -number))
                        self.assertEqual(sorted(refusal.ring), sorted(-member for member in members))
                    else:
                        self.assertEqual(row_of(other_way, -number), [-entry for entry in row])


class AlikeTest(Assertions, unittest.TestCase):

    def test_alike_ways_write_each_number_by_the_same_row_or_both_by_none(self):
        for name, way in ALL_WAYS.items():
            other_way = (way[0], tuple(reversed(way[1])))
            self.assertIs(alike(way, other_way), True)
            for number in NUMBERS[::3]:
                with self.subTest(way=name, number=number):
                    self.assert_tells(way, number, lambda: row_of(other_way, number))

    def test_alike_ways_have_the_same_rows(self):
        for name, way in ALL_WAYS.items():
            other_way = (way[0], tuple(reversed(way[1])))
            for length in LENGTHS:
                row = made_row(way, length, 15)
                with self.subTest(way=name, row=row):
                    self.assertEqual(value(other_way, row), value(way, row))
                    self.assertEqual(brought(way, other_way, row), row)

    def test_ways_that_are_not_alike_write_some_number_in_two_ways(self):
        ways = all_ways(2)[::3] + all_ways(-2)[::3] + all_ways(3)[::60] + [TEN, (10, tuple(range(-4, 6)))]
        for way, other_way in itertools.combinations(ways, 2):
            with self.subTest(way=way, other_way=other_way):
                self.assertIs(alike(way, other_way), False)
                digits = [entry for entry in way[1] + other_way[1] if entry != 0]
                # A digit that only one of them has is a row of one there alone; a base shows in the base itself.
                numbers = digits + [entry * way[0] for entry in digits] + [entry * other_way[0] for entry in digits]
                self.assertTrue(any(self.told(way, number) != self.told(other_way, number) for number in numbers))

    def told(self, way, number):
        try:
            return row_of(way, number)
        except NoDigits:
            return None


class HandedInTest(Assertions, unittest.TestCase):

    def test_the_row_handed_in_stays_and_is_not_told(self):
        for way, other_way, row in ((TEN, TEN, [4, 2]), (TEN, BALANCED, [4, 2]), (TEN, TEN, []), (TEN, BINARY, [1])):
            kept_row = list(row)
            with self.subTest(way=way, other_way=other_way, row=kept_row):
                told = brought(way, other_way, row)
                kept = list(told)
                self.assertIsNot(told, row)
                self.assertEqual(row, kept_row)
                row.append(7)
                self.assertEqual(told, kept)
                row.pop()
                told.append(1)
                self.assertEqual(row, kept_row)
                self.assertEqual(brought(way, other_way, row), kept)

    def test_a_refused_row_stays(self):
        for way, other_way, row in ((TEN, BALANCED, [4, 2, 0]), (BALANCED, TEN, [-1]), (TEN, (2, (-1, 0)), [1])):
            kept = list(row)
            with self.subTest(way=way, other_way=other_way, row=kept):
                self.assertRaises((NoRow, NoDigits), brought, way, other_way, row)
                self.assertEqual(row, kept)

    def test_each_ring_borne_is_a_list_of_its_own(self):
        other_way = (3, (0, -11, -7))
        one = self.assert_refused(NoDigits, lambda: brought(TEN, other_way, [4]))
        other = self.assert_refused(NoDigits, lambda: brought(TEN, other_way, [4]))
        one.ring.append(0)
        self.assertEqual(sorted(other.ring), [4, 5])
        self.assertEqual(sorted(self.assert_refused(NoDigits, lambda: brought(TEN, other_way, [4])).ring), [4, 5])


if __name__ == "__main__":
    unittest.main()
