import itertools
import os
import sys
import unittest

# The folder of the tests is no package: so the file beside this one is found from wherever the tests are run.
sys.path.insert(0, os.path.dirname(os.path.abspath(__file__)))

from examples import BINARY, EDGE_WAYS, NUMBERS, WAYS, Assertions, all_ways, is_whole
from digitways.errors import NoWay
from digitways.ways import alike, digit, follower, mirrored, ring


class NoWayTest(Assertions, unittest.TestCase):

    def test_digit(self):
        self.assert_no_way_refused(lambda way: digit(way, 5))
        self.assert_no_way_refused(lambda way: digit(way, 0))

    def test_follower(self):
        self.assert_no_way_refused(lambda way: follower(way, 5))
        self.assert_no_way_refused(lambda way: follower(way, 0))

    def test_ring(self):
        self.assert_no_way_refused(ring)

    def test_mirrored(self):
        self.assert_no_way_refused(mirrored)

    def test_alike_first_way(self):
        self.assert_no_way_refused(lambda way: alike(way, BINARY))

    def test_alike_second_way(self):
        self.assert_no_way_refused(lambda way: alike(BINARY, way))
        self.assert_no_way_refused(lambda way: alike((5, (0, 1, 2, 3, 4)), way))

    def test_alike_both_ways(self):
        self.assert_no_way_refused(lambda way: alike(way, way))
        self.assert_no_way_refused(lambda way: alike(way, (1, (0,))))
        self.assert_no_way_refused(lambda way: alike((1, (0,)), way))

    def test_alike_refuses_the_first_way_ahead(self):
        def words(asked):
            with self.assertRaises(NoWay) as caught:
                asked()
            return str(caught.exception)

        wrong_base = (13, (0, 1))
        wrong_digits = (2, (0, 2))
        base_words = words(lambda: mirrored(wrong_base))
        digit_words = words(lambda: mirrored(wrong_digits))
        self.assertNotEqual(base_words, digit_words)
        self.assertEqual(words(lambda: alike(wrong_base, wrong_digits)), base_words)
        self.assertEqual(words(lambda: alike(wrong_digits, wrong_base)), digit_words)

    def test_the_edges_that_are_ways(self):
        for name, way in EDGE_WAYS.items():
            with self.subTest(way=name):
                self.assertEqual(digit(way, 0), 0)
                self.assertEqual(follower(way, 0), 0)
                ring(way)
                mirrored(way)
                self.assertIs(alike(way, way), True)

    def test_all_bases(self):
        for size in range(-30, 31):
            way = (size, tuple(range(abs(size))))
            with self.subTest(base=size):
                if 2 <= abs(size) <= 12:
                    self.assertEqual(digit(way, 1), 1)
                else:
                    self.assertRaises(NoWay, digit, way, 1)

    def test_all_digits_beside_nought_by_two(self):
        for base in (2, -2):
            for entry in range(-60, 61):
                with self.subTest(base=base, entry=entry):
                    if entry % 2 == 1 and abs(entry) <= 40:
                        self.assertEqual(digit((base, (0, entry)), 1), entry)
                    else:
                        self.assertRaises(NoWay, digit, (base, (0, entry)), 1)


class DigitAndFollowerTest(unittest.TestCase):

    def test_the_digit_is_the_ways_and_the_follower_fits_it(self):
        for name, way in WAYS.items():
            base, digits = way
            for number in NUMBERS:
                with self.subTest(way=name, number=number):
                    told = digit(way, number)
                    after = follower(way, number)
                    self.assertIs(type(told), int)
                    self.assertIs(type(after), int)
                    self.assertIn(told, digits)
                    self.assertEqual(number, after * base + told)

    def test_of_nought(self):
        for name, way in WAYS.items():
            with self.subTest(way=name):
                self.assertEqual(digit(way, 0), 0)
                self.assertEqual(follower(way, 0), 0)

    def test_told_examples(self):
        examples = [
            ((10, tuple(range(10))), 1234, 4, 123),
            ((10, tuple(range(10))), -1, 9, -1),
            ((10, tuple(range(10))), 10 ** 30, 0, 10 ** 29),
            ((10, tuple(range(10))), -10 ** 30 - 1, 9, -10 ** 29 - 1),
            ((-10, tuple(range(10))), 10 ** 30 + 7, 7, -10 ** 29),
            ((-10, tuple(range(10))), -1, 9, 1),
            ((-2, (0, 1)), 3, 1, -1),
            ((-2, (0, 1)), -1, 1, 1),
            ((-2, (0, -1)), 3, -1, -2),
            ((3, (0, 1, -1)), 5, -1, 2),
            ((3, (0, 1, -1)), -5, 1, -2),
            ((2, (0, 39)), 1, 39, -19),
            ((2, (0, 39)), -39, 39, -39),
            ((3, (0, 40, -40)), 1, 40, -13),
            ((-3, (0, 40, -40)), 2, -40, -14),
        ]
        for way, number, told, after in examples:
            with self.subTest(way=way, number=number):
                self.assertEqual(digit(way, number), told)
                self.assertEqual(follower(way, number), after)

    def test_the_order_of_the_digits_makes_no_difference(self):
        for base, digits in ((3, (0, 25, -40)), (-4, (0, -3, 6, 11)), (4, (0, 9, -2, 3))):
            for order in itertools.permutations(digits):
                for number in (-10 ** 30, -97, -5, -1, 0, 1, 2, 3, 44, 10 ** 30 + 1):
                    with self.subTest(base=base, order=order, number=number):
                        self.assertEqual(digit((base, order), number), digit((base, digits), number))
                        self.assertEqual(follower((base, order), number), follower((base, digits), number))


class RingTest(Assertions, unittest.TestCase):

    def assert_right(self, way):
        told = ring(way)
        if is_whole(way):
            self.assertIsNone(told)
        else:
            self.assert_ring(way, told)

    def test_ways_that_are_whole(self):
        whole = [
            (-2, (0, 1)),
            (-2, (0, -1)),
            (3, (-1, 0, 1)),
            (3, (1, -1, 0)),
            (-3, (0, 1, 2)),
            (-10, tuple(range(10))),
            (-12, tuple(range(12))),
            (-12, tuple(range(-11, 1))),
            (10, (5, -4, 4, -3, 3, -2, 2, -1, 1, 0)),
            (12, tuple(range(-5, 7))),
            (3, (0, 1, -7)),
        ]
        for way in whole:
            with self.subTest(way=way):
                self.assertTrue(is_whole(way))
                self.assertIsNone(ring(way))

    def test_ways_with_one_ring_of_one_number(self):
        rings = [
            (BINARY, -1),
            ((2, (0, -1)), 1),
            ((10, tuple(range(10))), -1),
            ((12, tuple(range(12))), -1),
            ((12, tuple(range(-11, 1))), 1),
        ]
        for way, number in rings:
            with self.subTest(way=way):
                self.assertEqual(ring(way), [number])

    def test_ways_with_one_ring_far_from_nought(self):
        rings = [
            ((3, (0, -38, 11)), [19]),
            ((3, (0, -11, 38)), [-19]),
            ((3, (0, 1, -34)), [17]),
            ((3, (0, 34, -1)), [-17]),
            ((3, (0, 28, 29)), [-14]),
            ((4, (0, -39, -2, 11)), [13]),
            ((4, (0, 33, 34, 35)), [-11]),
        ]
        for way, told in rings:
            with self.subTest(way=way):
                self.assertEqual(ring(way), told)

    def test_ways_with_one_ring_of_several_numbers(self):
        rings = [
            ((3, (0, -35, -31)), [16, 17]),
            ((3, (0, 31, 35)), [-17, -16]),
            ((3, (0, -11, -7)), [4, 5]),
            ((-3, (0, 19, 17)), [4, 5]),
            ((-3, (0, 1, 35)), [-4, 13]),
            ((-3, (0, -26, -19)), [-7, -5, -4]),
            ((3, (0, 19, 35)), [-17, -16, -13, -12, -4]),
            ((3, (0, -29, -31)), [4, 5, 11, 12, 14, 15]),
        ]
        for way, members in rings:
            with self.subTest(way=way):
                told = ring(way)
                self.assert_ring(way, told)
                self.assertEqual(sorted(told), members)

    def test_every_way_by_two_and_three(self):
        for base in (2, -2, 3, -3):
            for way in all_ways(base):
                with self.subTest(way=way):
                    self.assert_right(way)

    def test_some_ways_by_four_and_five(self):
        for base, step in ((4, 4), (-4, 4), (5, 7), (-5, 7)):
            for way in all_ways(base, step):
                with self.subTest(way=way):
                    self.assert_right(way)

    def test_one_far_digit_by_each_base(self):
        for size in range(2, 13):
            for base in (size, -size):
                for entry in [d for d in range(-40, 41) if d % size != 0]:
                    nearest = [d for d in range(-(size // 2), size - size // 2) if d % size != entry % size]
                    with self.subTest(base=base, entry=entry):
                        self.assert_right((base, (entry,) + tuple(nearest)))

    def test_the_edges(self):
        for name, way in WAYS.items():
            with self.subTest(way=name):
                self.assert_right(way)

    def test_the_order_of_the_digits_makes_no_difference_to_being_whole(self):
        for base, digits in ((3, (0, 1, -7)), (3, (0, -38, 11)), (-4, (0, 1, 2, 3)), (4, (0, -39, -2, 11))):
            whole = ring((base, digits)) is None
            for order in itertools.permutations(digits):
                with self.subTest(base=base, order=order):
                    self.assert_right((base, order))
                    self.assertEqual(ring((base, order)) is None, whole)

    def test_asked_twice_tells_two_lists(self):
        for way in (BINARY, (3, (0, 31, 35)), (3, (0, 19, 35)), (2, (0, 37))):
            with self.subTest(way=way):
                one = ring(way)
                other = ring(way)
                self.assertIsNot(one, other)
                kept = list(other)
                one.append(0)
                one[0] = 1000
                self.assertEqual(other, kept)
                self.assert_ring(way, ring(way))
                one.clear()
                self.assert_ring(way, ring(way))


class AlikeTest(unittest.TestCase):

    def assert_alike(self, way, other_way, answer):
        self.assertIs(alike(way, other_way), answer)
        self.assertIs(alike(other_way, way), answer)

    def test_a_way_and_itself(self):
        for name, way in WAYS.items():
            with self.subTest(way=name):
                self.assert_alike(way, way, True)
                self.assert_alike(way, (way[0], tuple(list(way[1]))), True)

    def test_the_same_digits_in_another_order(self):
        for base, digits in ((3, (0, 25, -40)), (-4, (0, -3, 6, 11)), (2, (39, 0))):
            for order in itertools.permutations(digits):
                with self.subTest(base=base, order=order):
                    self.assert_alike((base, digits), (base, order), True)
        self.assert_alike((12, tuple(range(12))), (12, tuple(range(11, -1, -1))), True)

    def test_another_base_sign(self):
        for name, (base, digits) in WAYS.items():
            with self.subTest(way=name):
                self.assert_alike((base, digits), (-base, digits), False)

    def test_one_digit_other_by_the_base(self):
        self.assert_alike((3, (0, 1, 2)), (3, (0, 1, -1)), False)
        self.assert_alike((3, (0, 1, 2)), (3, (0, 4, 2)), False)
        self.assert_alike((-2, (0, 1)), (-2, (0, -1)), False)
        self.assert_alike((2, (0, 39)), (2, (0, 37)), False)
        self.assert_alike((12, tuple(range(12))), (12, tuple(range(11)) + (-1,)), False)

    def test_another_base(self):
        self.assert_alike(BINARY, (3, (0, 1, 2)), False)
        self.assert_alike((-2, (0, 1)), (12, tuple(range(12))), False)

    def test_digits_of_the_same_sum_or_sizes(self):
        self.assert_alike((5, (0, 1, 2, 3, 4)), (5, (0, 6, -3, 3, 4)), False)
        self.assert_alike((4, (0, 1, 2, 3)), (4, (0, -3, -2, -1)), False)

    def test_all_pairs(self):
        for (name, way), (other_name, other_way) in itertools.product(WAYS.items(), repeat=2):
            with self.subTest(way=name, other_way=other_name):
                same = way[0] == other_way[0] and set(way[1]) == set(other_way[1])
                self.assertIs(alike(way, other_way), same)


class MirroredTest(unittest.TestCase):

    def test_base_the_same_and_each_digit_less_nought(self):
        for name, way in WAYS.items():
            with self.subTest(way=name):
                told = mirrored(way)
                self.assertIs(type(told), tuple)
                self.assertEqual(len(told), 2)
                self.assertEqual(told[0], way[0])
                self.assertIs(type(told[0]), int)
                self.assertIs(type(told[1]), tuple)
                self.assertEqual(sorted(told[1]), sorted(-entry for entry in way[1]))
                self.assertTrue(all(type(entry) is int for entry in told[1]))

    def test_told_examples(self):
        self.assertIs(alike(mirrored((-2, (0, 1))), (-2, (0, -1))), True)
        self.assertIs(alike(mirrored((3, (0, 40, -40))), (3, (0, 40, -40))), True)
        self.assertIs(alike(mirrored((3, (0, -5, 8))), (3, (0, 5, -8))), True)

    def test_mirrored_twice_is_alike_to_the_way(self):
        for name, way in WAYS.items():
            with self.subTest(way=name):
                self.assertIs(alike(mirrored(mirrored(way)), way), True)

    def test_digits_and_followers_by_it_are_those_less_nought(self):
        for name, way in WAYS.items():
            other_way = mirrored(way)
            for number in NUMBERS[::7]:
                with self.subTest(way=name, number=number):
                    self.assertEqual(digit(other_way, -number), -digit(way, number))
                    self.assertEqual(follower(other_way, -number), -follower(way, number))

    def test_is_whole_when_the_way_is(self):
        for way in all_ways(3)[::5] + all_ways(-3)[::5]:
            with self.subTest(way=way):
                self.assertEqual(ring(mirrored(way)) is None, ring(way) is None)


class HandedInTest(unittest.TestCase):

    def test_ways_stay_as_they_were(self):
        for base, digits in ((3, (25, 0, -40)), (-4, (11, -3, 0, 6)), (2, (1, 0))):
            with self.subTest(base=base, digits=digits):
                way = (base, digits)
                other_way = (base, tuple(reversed(digits)))
                digit(way, 77)
                follower(way, 77)
                told = ring(way)
                if told is not None:
                    told.clear()
                alike(way, other_way)
                mirrored(way)
                self.assertEqual(way, (base, digits))
                self.assertIs(way[1], digits)
                self.assertEqual(other_way, (base, tuple(reversed(digits))))

    def test_nothing_hangs_on_what_was_asked_before(self):
        for way in (BINARY, (2, (0, -1)), (-2, (0, 1)), BINARY, (2, (0, 3)), BINARY):
            self.assertEqual(digit(way, 1), way[1][1])
            self.assertEqual(ring(way) is None, is_whole(way))


if __name__ == "__main__":
    unittest.main()
