import itertools
import unittest

from digitways.errors import NoDigits, NoNote, NoRow, NoWay, WayError
from digitways.ways import alike, digit, follower, mirrored, ring

BINARY = (2, (0, 1))

WRONG_BASES = {
    "base 1": (1, (0,)),
    "base 1, two digits": (1, (0, 1)),
    "base 0, no digit": (0, ()),
    "base 0": (0, (0,)),
    "base -1": (-1, (0,)),
    "base 13": (13, tuple(range(13))),
    "base -13": (-13, tuple(range(13))),
    "base 81, all digits there are": (81, tuple(range(-40, 41))),
    "base -81, all digits there are": (-81, tuple(range(-40, 41))),
    "base 10 ** 30": (10 ** 30, (0, 1)),
    "base -10 ** 30": (-10 ** 30, (0, 1)),
    "a base of thousands of figures": (10 ** 5000, (0, 1)),
    "a base of thousands of figures below nought": (-10 ** 5000, (0, 1)),
}

WRONG_DIGITS = {
    "no digit": (2, ()),
    "one left out": (3, (0, 1)),
    "one left out, base below nought": (-3, (0, -1)),
    "one of twelve left out": (12, tuple(range(11))),
    "one too many": (2, (0, 1, 2)),
    "one too many, base below nought": (-3, (0, 1, -1, 3)),
    "one too many for 12": (12, tuple(range(13))),
    "0 twice": (2, (0, 0)),
    "0 twice, else right": (3, (0, 1, 2, 0)),
    "another twice": (3, (0, 1, 1)),
    "another twice, else right": (3, (0, 1, 2, 2)),
    "another twice, base below nought": (-3, (0, -1, -1)),
    "two of rest 0": (2, (0, 2)),
    "two of one rest above nought": (3, (0, 1, 4)),
    "two of one rest on both sides": (3, (0, 1, -2)),
    "two of one rest below nought": (-4, (0, -1, -2, -5)),
    "two of one rest far apart": (-5, (0, -40, 1, 2, 3)),
    "two of one rest, each in size unlike": (-12, (0, 1, 2, 3, 4, 5, 6, 7, 8, 9, 10, -2)),
    "a digit 41": (2, (0, 41)),
    "a digit 41 at the front": (3, (41, 0, 1)),
    "a digit -41": (2, (0, -41)),
    "a digit -41, base below nought": (-3, (0, -41, 2)),
    "a digit far above": (2, (0, 10 ** 30 + 1)),
    "a digit far below": (-2, (-10 ** 30 - 1, 0)),
    "a digit of thousands of figures": (2, (0, 10 ** 5000 + 1)),
    "none 0": (2, (1, 2)),
    "none 0 but one of rest 0 below nought": (-2, (-2, 1)),
    "none 0 of three": (3, (1, 2, 3)),
    "none 0 of twelve": (12, tuple(range(1, 13))),
}

WRONG_SHAPES = {
    "nothing": (),
    "a base alone": (2,),
    "one behind the digits": (2, (0, 1), 0),
    "digits ahead of the base": ((0, 1), 2),
    "digits as a list": (2, [0, 1]),
    "a list": [2, (0, 1)],
}

NO_WAYS = {**WRONG_BASES, **WRONG_DIGITS, **WRONG_SHAPES}

EDGE_WAYS = {
    "base 2": BINARY,
    "base -2": (-2, (0, 1)),
    "base 12": (12, tuple(range(12))),
    "base -12": (-12, tuple(range(12))),
    "base 12, digits below nought": (12, tuple(range(-11, 1))),
    "digits 40 and -40": (3, (0, 40, -40)),
    "digits 40 and -40, base below nought": (-3, (40, -40, 0)),
    "base 12, digits 40 and -40": (12, (40, 1, 2, 3, 0, 5, 6, 7, -40, 9, 10, 11)),
    "base -12, digits 40 and -40": (-12, (11, 10, 9, -40, 7, 6, 5, 40, 3, 2, 1, 0)),
    "base 11, 40": (11, (0, 1, 2, 3, 4, 5, 6, 40, 8, 9, 10)),
    "base -11, -40": (-11, (0, 1, 2, 3, -40, 5, 6, 7, 8, 9, 10)),
}

ORDINARY_WAYS = {
    "ten": (10, tuple(range(10))),
    "ten from the back": (10, tuple(range(9, -1, -1))),
    "ten, from -4 to 5": (10, (5, -4, 4, -3, 3, -2, 2, -1, 1, 0)),
    "ten below nought": (-10, tuple(range(10))),
    "three, balanced": (3, (-1, 0, 1)),
    "three, balanced, in another order": (3, (1, -1, 0)),
    "three below nought": (-3, (2, 0, 1)),
    "three, far digits": (3, (0, 25, 38)),
    "two, 1 less nought": (2, (-1, 0)),
    "two, 39": (2, (39, 0)),
    "seven below nought, mixed": (-7, (15, -5, 0, 10, -3, 5, 6)),
}

WAYS = {**EDGE_WAYS, **ORDINARY_WAYS}

NUMBERS = list(range(-130, 131)) + [
    sign * size + near
    for sign in (1, -1)
    for size in (10 ** 3, 2 ** 53, 2 ** 64, 12 ** 20, 10 ** 29, 10 ** 30, 10 ** 33)
    for near in (-2, -1, 0, 1, 2)
]


def all_ways(base, step=1):
    """Each way by the base, or every step-th choice of each digit, 0 at the front."""
    choices = [[d for d in range(-40, 41) if d % abs(base) == rest][::step] for rest in range(1, abs(base))]
    return [(base, (0,) + digits) for digits in itertools.product(*choices)]


def plain_follower(way, number):
    base, digits = way
    quotients = [divmod(number - entry, base) for entry in digits]
    (answer,) = [quotient for quotient, rest in quotients if rest == 0]
    return answer


def is_whole(way):
    """By walks alone: no follower of a number up to 100 in size lies beyond it, and all larger ones come there."""
    ending = {0}
    for number in range(-100, 101):
        walk = set()
        while number not in ending:
            if number in walk:
                return False
            walk.add(number)
            number = plain_follower(way, number)
        ending |= walk
    return True


class NoWayTest(unittest.TestCase):

    def assert_refused(self, asked):
        for name, way in NO_WAYS.items():
            with self.subTest(way=name):
                with self.assertRaises(NoWay) as caught:
                    asked(way)
                self.assertIs(type(caught.exception), NoWay)

    def test_digit(self):
        self.assert_refused(lambda way: digit(way, 5))
        self.assert_refused(lambda way: digit(way, 0))

    def test_follower(self):
        self.assert_refused(lambda way: follower(way, 5))
        self.assert_refused(lambda way: follower(way, 0))

    def test_ring(self):
        self.assert_refused(ring)

    def test_mirrored(self):
        self.assert_refused(mirrored)

    def test_alike_first_way(self):
        self.assert_refused(lambda way: alike(way, BINARY))

    def test_alike_second_way(self):
        self.assert_refused(lambda way: alike(BINARY, way))
        self.assert_refused(lambda way: alike((5, (0, 1, 2, 3, 4)), way))

    def test_alike_both_ways(self):
        self.assert_refused(lambda way: alike(way, way))
        self.assert_refused(lambda way: alike(way, (1, (0,))))
        self.assert_refused(lambda way: alike((1, (0,)), way))

    def test_alike_refuses_the_first_way_ahead(self):
        def words(asked):
            with self.assertRaises(NoWay) as caught:
                asked()
            return str(caught.exception)

        wrong_base = (13, (0, 1))
        wrong_digits = (2, (0, 2))
        base_words = words(lambda: mirrored(wrong_base))
        digit_words = words(lambda: mirrored(wrong_digits))
        self.assertNotEqual(base_words, digit_words)
        self.assertEqual(words(lambda: alike(wrong_base, wrong_digits)), base_words)
        self.assertEqual(words(lambda: alike(wrong_digits, wrong_base)), digit_words)

    def test_taken_by_the_classes_above_and_not_by_a_sister(self):
        for asked in (lambda: digit((1, (0,)), 0), lambda: ring((2, (0, 2))), lambda: alike(BINARY, (2, (0, 41)))):
            for taken in (WayError, ValueError):
                with self.assertRaises(taken):
                    asked()
            try:
                asked()
            except (NoRow, NoDigits, NoNote):
                self.fail("taken by a sister class")
            except WayError as error:
                self.assertIsInstance(error, NoWay)

    def test_the_edges_that_are_ways(self):
        for name, way in EDGE_WAYS.items():
            with self.subTest(way=name):
                self.assertEqual(digit(way, 0), 0)
                self.assertEqual(follower(way, 0), 0)
                ring(way)
                mirrored(way)
                self.assertIs(alike(way, way), True)

    def test_all_bases(self):
        for size in range(-30, 31):
            way = (size, tuple(range(abs(size))))
            with self.subTest(base=size):
                if 2 <= abs(size) <= 12:
                    self.assertEqual(digit(way, 1), 1)
                else:
                    self.assertRaises(NoWay, digit, way, 1)

    def test_all_digits_beside_nought_by_two(self):
        for base in (2, -2):
            for entry in range(-60, 61):
                with self.subTest(base=base, entry=entry):
                    if entry % 2 == 1 and abs(entry) <= 40:
                        self.assertEqual(digit((base, (0, entry)), 1), entry)
                    else:
                        self.assertRaises(NoWay, digit, (base, (0, entry)), 1)


class DigitAndFollowerTest(unittest.TestCase):

    def test_the_digit_is_the_ways_and_the_follower_fits_it(self):
        for name, way in WAYS.items():
            base, digits = way
            for number in NUMBERS:
                with self.subTest(way=name, number=number):
                    told = digit(way, number)
                    after = follower(way, number)
                    self.assertIs(type(told), int)
                    self.assertIs(type(after), int)
                    self.assertIn(told, digits)
                    self.assertEqual(number, after * base + told)

    def test_of_nought(self):
        for name, way in WAYS.items():
            with self.subTest(way=name):
                self.assertEqual(digit(way, 0), 0)
                self.assertEqual(follower(way, 0), 0)

    def test_told_examples(self):
        examples = [
            ((10, tuple(range(10))), 1234, 4, 123),
            ((10, tuple(range(10))), -1, 9, -1),
            ((10, tuple(range(10))), 10 ** 30, 0, 10 ** 29),
            ((10, tuple(range(10))), -10 ** 30 - 1, 9, -10 ** 29 - 1),
            ((-10, tuple(range(10))), 10 ** 30 + 7, 7, -10 ** 29),
            ((-10, tuple(range(10))), -1, 9, 1),
            ((-2, (0, 1)), 3, 1, -1),
            ((-2, (0, 1)), -1, 1, 1),
            ((-2, (0, -1)), 3, -1, -2),
            ((3, (0, 1, -1)), 5, -1, 2),
            ((3, (0, 1, -1)), -5, 1, -2),
            ((2, (0, 39)), 1, 39, -19),
            ((2, (0, 39)), -39, 39, -39),
            ((3, (0, 40, -40)), 1, 40, -13),
            ((-3, (0, 40, -40)), 2, -40, -14),
        ]
        for way, number, told, after in examples:
            with self.subTest(way=way, number=number):
                self.assertEqual(digit(way, number), told)
                self.assertEqual(follower(way, number), after)

    def test_the_order_of_the_digits_makes_no_difference(self):
        for base, digits in ((3, (0, 25, -40)), (-4, (0, -3, 6, 11)), (4, (0, 9, -2, 3))):
            for order in itertools.permutations(digits):
                for number in (-10 ** 30, -97, -5, -1, 0, 1, 2, 3, 44, 10 ** 30 + 1):
                    with self.subTest(base=base, order=order, number=number):
                        self.assertEqual(digit((base, order), number), digit((base, digits), number))
                        self.assertEqual(follower((base, order), number), follower((base, digits), number))


class RingTest(unittest.TestCase):

    def assert_ring(self, way, told):
        self.assertIs(type(told), list)
        self.assertGreater(len(told), 0)
        self.assertNotIn(0, told)
        self.assertEqual(len(set(told)), len(told))
        for here, after in zip(told, told[1:] + told[:1]):
            self.assertIs(type(here), int)
            self.assertEqual(plain_follower(way, here), after)

    def assert_right(self, way):
        told = ring(way)
        if is_whole(way):
            self.assertIsNone(told)
        else:
            self.assert_ring(way, told)

    def test_ways_that_are_whole(self):
        whole = [
            (-2, (0, 1)),
            (-2, (0, -1)),
            (3, (-1, 0, 1)),
            (3, (1, -1, 0)),
            (-3, (0, 1, 2)),
            (-10, tuple(range(10))),
            (-12, tuple(range(12))),
            (-12, tuple(range(-11, 1))),
            (10, (5, -4, 4, -3, 3, -2, 2, -1, 1, 0)),
            (12, tuple(range(-5, 7))),
            (3, (0, 1, -7)),
        ]
        for way in whole:
            with self.subTest(way=way):
                self.assertTrue(is_whole(way))
                self.assertIsNone(ring(way))

    def test_ways_with_one_ring_of_one_number(self):
        rings = [
            (BINARY, -1),
            ((2, (0, -1)), 1),
            ((10, tuple(range(10))), -1),
            ((12, tuple(range(12))), -1),
            ((12, tuple(range(-11, 1))), 1),
        ]
        for way, number in rings:
            with self.subTest(way=way):
                self.assertEqual(ring(way), [number])

    def test_ways_with_one_ring_far_from_nought(self):
        rings = [
            ((3, (0, -38, 11)), [19]),
            ((3, (0, -11, 38)), [-19]),
            ((3, (0, 1, -34)), [17]),
            ((3, (0, 34, -1)), [-17]),
            ((3, (0, 28, 29)), [-14]),
            ((4, (0, -39, -2, 11)), [13]),
            ((4, (0, 33, 34, 35)), [-11]),
        ]
        for way, told in rings:
            with self.subTest(way=way):
                self.assertEqual(ring(way), told)

    def test_ways_with_one_ring_of_several_numbers(self):
        rings = [
            ((3, (0, -35, -31)), [16, 17]),
            ((3, (0, 31, 35)), [-17, -16]),
            ((3, (0, -11, -7)), [4, 5]),
            ((-3, (0, 19, 17)), [4, 5]),
            ((-3, (0, 1, 35)), [-4, 13]),
            ((-3, (0, -26, -19)), [-7, -5, -4]),
            ((3, (0, 19, 35)), [-17, -16, -13, -12, -4]),
            ((3, (0, -29, -31)), [4, 5, 11, 12, 14, 15]),
        ]
        for way, members in rings:
            with self.subTest(way=way):
                told = ring(way)
                self.assert_ring(way, told)
                self.assertEqual(sorted(told), members)

    def test_every_way_by_two_and_three(self):
        for base in (2, -2, 3, -3):
            for way in all_ways(base):
                with self.subTest(way=way):
                    self.assert_right(way)

    def test_some_ways_by_four_and_five(self):
        for base, step in ((4, 4), (-4, 4), (5, 7), (-5, 7)):
            for way in all_ways(base, step):
                with self.subTest(way=way):
                    self.assert_right(way)

    def test_one_far_digit_by_each_base(self):
        for size in range(2, 13):
            for base in (size, -size):
                for entry in [d for d in range(-40, 41) if d % size != 0]:
                    nearest = [d for d in range(-(size // 2), size - size // 2) if d % size != entry % size]
                    with self.subTest(base=base, entry=entry):
                        self.assert_right((base, (entry,) + tuple(nearest)))

    def test_the_edges(self):
        for name, way in WAYS.items():
            with self.subTest(way=name):
                self.assert_right(way)

    def test_the_order_of_the_digits_makes_no_difference_to_being_whole(self):
        for base, digits in ((3, (0, 1, -7)), (3, (0, -38, 11)), (-4, (0, 1, 2, 3)), (4, (0, -39, -2, 11))):
            whole = ring((base, digits)) is None
            for order in itertools.permutations(digits):
                with self.subTest(base=base, order=order):
                    self.assert_right((base, order))
                    self.assertEqual(ring((base, order)) is None, whole)

    def test_asked_twice_tells_two_lists(self):
        for way in (BINARY, (3, (0, 31, 35)), (3, (0, 19, 35)), (2, (0, 37))):
            with self.subTest(way=way):
                one = ring(way)
                other = ring(way)
                self.assertIsNot(one, other)
                kept = list(other)
                one.append(0)
                one[0] = 1000
                self.assertEqual(other, kept)
                self.assert_ring(way, ring(way))
                one.clear()
                self.assert_ring(way, ring(way))


class AlikeTest(unittest.TestCase):

    def assert_alike(self, way, other_way, answer):
        self.assertIs(alike(way, other_way), answer)
        self.assertIs(alike(other_way, way), answer)

    def test_a_way_and_itself(self):
        for name, way in WAYS.items():
            with self.subTest(way=name):
                self.assert_alike(way, way, True)
                self.assert_alike(way, (way[0], tuple(list(way[1]))), True)

    def test_the_same_digits_in_another_order(self):
        for base, digits in ((3, (0, 25, -40)), (-4, (0, -3, 6, 11)), (2, (39, 0))):
            for order in itertools.permutations(digits):
                with self.subTest(base=base, order=order):
                    self.assert_alike((base, digits), (base, order), True)
        self.assert_alike((12, tuple(range(12))), (12, tuple(range(11, -1, -1))), True)

    def test_another_base_sign(self):
        for name, (base, digits) in WAYS.items():
            with self.subTest(way=name):
                self.assert_alike((base, digits), (-base, digits), False)

    def test_one_digit_other_by_the_base(self):
        self.assert_alike((3, (0, 1, 2)), (3, (0, 1, -1)), False)
        self.assert_alike((3, (0, 1, 2)), (3, (0, 4, 2)), False)
        self.assert_alike((-2, (0, 1)), (-2, (0, -1)), False)
        self.assert_alike((2, (0, 39)), (2, (0, 37)), False)
        self.assert_alike((12, tuple(range(12))), (12, tuple(range(11)) + (-1,)), False)

    def test_another_base(self):
        self.assert_alike(BINARY, (3, (0, 1, 2)), False)
        self.assert_alike((-2, (0, 1)), (12, tuple(range(12))), False)

    def test_digits_of_the_same_sum_or_sizes(self):
        self.assert_alike((5, (0, 1, 2, 3, 4)), (5, (0, 6, -3, 3, 4)), False)
        self.assert_alike((4, (0, 1, 2, 3)), (4, (0, -3, -2, -1)), False)

    def test_all_pairs(self):
        for (name, way), (other_name, other_way) in itertools.product(WAYS.items(), repeat=2):
            with self.subTest(way=name, other_way=other_name):
                same = way[0] == other_way[0] and set(way[1]) == set(other_way[1])
                self.assertIs(alike(way, other_way), same)


class MirroredTest(unittest.TestCase):

    def test_base_the_same_and_each_digit_less_nought(self):
        for name, way in WAYS.items():
            with self.subTest(way=name):
                told = mirrored(way)
                self.assertIs(type(told), tuple)
                self.assertEqual(len(told), 2)
                self.assertEqual(told[0], way[0])
                self.assertIs(type(told[0]), int)
                self.assertIs(type(told[1]), tuple)
                self.assertEqual(sorted(told[1]), sorted(-entry for entry in way[1]))
                self.assertTrue(all(type(entry) is int for entry in told[1]))

    def test_told_examples(self):
        self.assertIs(alike(mirrored((-2, (0, 1))), (-2, (0, -1))), True)
        self.assertIs(alike(mirrored((3, (0, 40, -40))), (3, (0, 40, -40))), True)
        self.assertIs(alike(mirrored((3, (0, -5, 8))), (3, (0, 5, -8))), True)

    def test_mirrored_twice_is_alike_to_the_way(self):
        for name, way in WAYS.items():
            with self.subTest(way=name):
                self.assertIs(alike(mirrored(mirrored(way)), way), True)

    def test_digits_and_followers_by_it_are_those_less_nought(self):
        for name, way in WAYS.items():
            other_way = mirrored(way)
            for number in NUMBERS[::7]:
                with self.subTest(way=name, number=number):
                    self.assertEqual(digit(other_way, -number), -digit(way, number))
                    self.assertEqual(follower(other_way, -number), -follower(way, number))

    def test_is_whole_when_the_way_is(self):
        for way in all_ways(3)[::5] + all_ways(-3)[::5]:
            with self.subTest(way=way):
                self.assertEqual(ring(mirrored(way)) is None, ring(way) is None)


class HandedInTest(unittest.TestCase):

    def test_ways_stay_as_they_were(self):
        for base, digits in ((3, (25, 0, -40)), (-4, (11, -3, 0, 6)), (2, (1, 0))):
            with self.subTest(base=base, digits=digits):
                way = (base, digits)
                other_way = (base, tuple(reversed(digits)))
                digit(way, 77)
                follower(way, 77)
                told = ring(way)
                if told is not None:
                    told.clear()
                alike(way, other_way)
                mirrored(way)
                self.assertEqual(way, (base, digits))
                self.assertIs(way[1], digits)
                self.assertEqual(other_way, (base, tuple(reversed(digits))))

    def test_nothing_hangs_on_what_was_asked_before(self):
        for way in (BINARY, (2, (0, -1)), (-2, (0, 1)), BINARY, (2, (0, 3)), BINARY):
            self.assertEqual(digit(way, 1), way[1][1])
            self.assertEqual(ring(way) is None, is_whole(way))


if __name__ == "__main__":
    unittest.main()
