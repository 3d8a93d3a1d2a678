"""Ways, numbers and rows that several of the test files ask about, and plain reckonings to hold answers against."""

import itertools

from digitways.errors import NoDigits, NoNote, NoRow, NoWay, WayError

BINARY = (2, (0, 1))
NEGABINARY = (-2, (0, 1))
BALANCED = (3, (-1, 0, 1))
TEN = (10, tuple(range(10)))

WRONG_BASES = {
    "base 1": (1, (0,)),
    "base 1, two digits": (1, (0, 1)),
    "base 0, no digit": (0, ()),
    "base 0": (0, (0,)),
    "base -1": (-1, (0,)),
    "base 13": (13, tuple(range(13))),
    "base -13": (-13, tuple(range(13))),
    "base 81, all digits there are": (81, tuple(range(-40, 41))),
    "base -81, all digits there are": (-81, tuple(range(-40, 41))),
    "base 10 ** 30": (10 ** 30, (0, 1)),
    "base -10 ** 30": (-10 ** 30, (0, 1)),
    "a base of thousands of figures": (10 ** 5000, (0, 1)),
    "a base of thousands of figures below nought": (-10 ** 5000, (0, 1)),
}

WRONG_DIGITS = {
    "no digit": (2, ()),
    "one left out": (3, (0, 1)),
    "one left out, base below nought": (-3, (0, -1)),
    "one of twelve left out": (12, tuple(range(11))),
    "one too many": (2, (0, 1, 2)),
    "one too many, base below nought": (-3, (0, 1, -1, 3)),
    "one too many for 12": (12, tuple(range(13))),
    "0 twice": (2, (0, 0)),
    "0 twice, else right": (3, (0, 1, 2, 0)),
    "another twice": (3, (0, 1, 1)),
    "another twice, else right": (3, (0, 1, 2, 2)),
    "another twice, base below nought": (-3, (0, -1, -1)),
    "two of rest 0": (2, (0, 2)),
    "two of one rest above nought": (3, (0, 1, 4)),
    "two of one rest on both sides": (3, (0, 1, -2)),
    "two of one rest below nought": (-4, (0, -1, -2, -5)),
    "two of one rest far apart": (-5, (0, -40, 1, 2, 3)),
    "two of one rest, each in size unlike": (-12, (0, 1, 2, 3, 4, 5, 6, 7, 8, 9, 10, -2)),
    "a digit 41": (2, (0, 41)),
    "a digit 41 at the front": (3, (41, 0, 1)),
    "a digit -41": (2, (0, -41)),
    "a digit -41, base below nought": (-3, (0, -41, 2)),
    "a digit far above": (2, (0, 10 ** 30 + 1)),
    "a digit far below": (-2, (-10 ** 30 - 1, 0)),
    "a digit of thousands of figures": (2, (0, 10 ** 5000 + 1)),
    "none 0": (2, (1, 2)),
    "none 0 but one of rest 0 below nought": (-2, (-2, 1)),
    "none 0 of three": (3, (1, 2, 3)),
    "none 0 of twelve": (12, tuple(range(1, 13))),
}

WRONG_SHAPES = {
    "nothing": (),
    "a base alone": (2,),
    "one behind the digits": (2, (0, 1), 0),
    "digits ahead of the base": ((0, 1), 2),
    "digits as a list": (2, [0, 1]),
    "a list": [2, (0, 1)],
}

NO_WAYS = {**WRONG_BASES, **WRONG_DIGITS, **WRONG_SHAPES}

EDGE_WAYS = {
    "base 2": BINARY,
    "base -2": (-2, (0, 1)),
    "base 12": (12, tuple(range(12))),
    "base -12": (-12, tuple(range(12))),
    "base 12, digits below nought": (12, tuple(range(-11, 1))),
    "digits 40 and -40": (3, (0, 40, -40)),
    "digits 40 and -40, base below nought": (-3, (40, -40, 0)),
    "base 12, digits 40 and -40": (12, (40, 1, 2, 3, 0, 5, 6, 7, -40, 9, 10, 11)),
    "base -12, digits 40 and -40": (-12, (11, 10, 9, -40, 7, 6, 5, 40, 3, 2, 1, 0)),
    "base 11, 40": (11, (0, 1, 2, 3, 4, 5, 6, 40, 8, 9, 10)),
    "base -11, -40": (-11, (0, 1, 2, 3, -40, 5, 6, 7, 8, 9, 10)),
}

ORDINARY_WAYS = {
    "ten": (10, tuple(range(10))),
    "ten from the back": (10, tuple(range(9, -1, -1))),
    "ten, from -4 to 5": (10, (5, -4, 4, -3, 3, -2, 2, -1, 1, 0)),
    "ten below nought": (-10, tuple(range(10))),
    "three, balanced": (3, (-1, 0, 1)),
    "three, balanced, in another order": (3, (1, -1, 0)),
    "three below nought": (-3, (2, 0, 1)),
    "three, far digits": (3, (0, 25, 38)),
    "two, 1 less nought": (2, (-1, 0)),
    "two, 39": (2, (39, 0)),
    "seven below nought, mixed": (-7, (15, -5, 0, 10, -3, 5, 6)),
}

WAYS = {**EDGE_WAYS, **ORDINARY_WAYS}

RINGED_WAYS = {
    "a ring of one number above nought": (2, (-1, 0)),
    "a ring of one number far from nought": (4, (0, -39, -2, 11)),
    "a ring of two numbers": (3, (0, -11, -7)),
    "a ring of two numbers below nought": (3, (0, 31, 35)),
    "a ring of two numbers on both sides": (-3, (0, 1, 35)),
    "a ring of three numbers": (-3, (0, -26, -19)),
    "a ring of five numbers": (3, (0, 19, 35)),
    "a ring of 36 numbers and others": (2, (0, 37)),
    "two rings": (3, (0, 22, 35)),
    "a ring of one number beside one of three": (3, (0, 25, 38)),
    "a ring of one number, digits on both sides": (3, (0, 4, -1)),
}

ALL_WAYS = {**WAYS, **RINGED_WAYS}

# Lists that are no rows, whatever the way: each ends with 0, or holds what no way has as a digit.
NEVER_ROWS = [[0], [0, 0], [1, 0], [-1, 1, 0, 0], [41], [-41], [10 ** 30], [0, -10 ** 30], [41, 0], [10 ** 5000]]

NUMBERS = list(range(-130, 131)) + [
    sign * size + near
    for sign in (1, -1)
    for size in (10 ** 3, 2 ** 53, 2 ** 64, 12 ** 20, 10 ** 29, 10 ** 30, 10 ** 33)
    for near in (-2, -1, 0, 1, 2)
]


def all_ways(base, step=1):
    """Each way by the base, or every step-th choice of each digit, 0 at the front."""
    choices = [[d for d in range(-40, 41) if d % abs(base) == rest][::step] for rest in range(1, abs(base))]
    return [(base, (0,) + digits) for digits in itertools.product(*choices)]


def plain_follower(way, number):
    base, digits = way
    quotients = [divmod(number - entry, base) for entry in digits]
    (answer,) = [quotient for quotient, rest in quotients if rest == 0]
    return answer


def is_whole(way):
    """By walks alone: no follower of a number up to 100 in size lies beyond it, and all larger ones come there."""
    ending = {0}
    for number in range(-100, 101):
        walk = set()
        while number not in ending:
            if number in walk:
                return False
            walk.add(number)
            number = plain_follower(way, number)
        ending |= walk
    return True


def plain_value(way, row):
    return sum(entry * way[0] ** place for place, entry in enumerate(row))


def plain_walk(way, number):
    """The digits on the walk to 0 and no ring, or no digits (None) and the ring to which the walk comes."""
    digits = []
    places = {}
    while number != 0:
        if number in places:
            return None, list(places)[places[number]:]
        places[number] = len(places)
        after = plain_follower(way, number)
        digits.append(number - after * way[0])
        number = after
    return digits, []


def made_row(way, length, seed):
    """A row of that length, its digits mixed by the seed, the same each time."""
    digits = sorted(way[1])
    state = seed
    row = []
    for place in range(length):
        state = (state * 1103515245 + 12345) % 2 ** 31
        row.append(digits[(state >> 16) % len(digits)])
    if row and row[-1] == 0:
        row[-1] = [entry for entry in digits if entry != 0][seed % (len(digits) - 1)]
    return row


def all_rows(way, longest):
    """Each row of at most that many digits."""
    lists = [list(row) for length in range(longest + 1) for row in itertools.product(way[1], repeat=length)]
    return [row for row in lists if not row or row[-1] != 0]


class Assertions:
    """What test cases of several files hold answers against."""

    def assert_ring(self, way, told):
        self.assertIs(type(told), list)
        self.assertGreater(len(told), 0)
        self.assertNotIn(0, told)
        self.assertEqual(len(set(told)), len(told))
        for here, after in zip(told, told[1:] + told[:1]):
            self.assertIs(type(here), int)
            self.assertEqual(plain_follower(way, here), after)

    def assert_refused(self, kind, asked):
        for taken in (kind, WayError, ValueError):
            with self.assertRaises(taken) as caught:
                asked()
            self.assertIs(type(caught.exception), kind)
        for sister in (NoWay, NoRow, NoDigits, NoNote):
            self.assertEqual(isinstance(caught.exception, sister), sister is kind)
        return caught.exception

    def assert_tells(self, way, number, asked):
        """What is asked tells the row of the number by the way, or refuses it with the ring of its walk."""
        row, members = plain_walk(way, number)
        if row is None:
            told = self.assert_refused(NoDigits, asked).ring
            self.assert_ring(way, told)
            self.assertEqual(sorted(told), sorted(members))
        else:
            told = asked()
            self.assertIs(type(told), list)
            self.assertTrue(all(type(entry) is int for entry in told))
            self.assertEqual(told, row)

    def assert_no_way_refused(self, asked):
        for name, way in NO_WAYS.items():
            with self.subTest(way=name):
                self.assert_refused(NoWay, lambda: asked(way))
