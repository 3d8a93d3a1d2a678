"""Ways of writing whole numbers: what is a way, its digits, followers and rings, and ways beside one another."""

from digitways.errors import NoWay

SMALLEST_BASE = 2
LARGEST_BASE = 12
LARGEST_DIGIT = 40


def is_whole_number(thing):
    return isinstance(thing, int) and not isinstance(thing, bool)


def check_base(base):
    # No words of a refusal hold a number: Python does not write one of very many figures as a text.
    if not is_whole_number(base):
        raise NoWay("the base of a way is a whole number")
    if abs(base) < SMALLEST_BASE or abs(base) > LARGEST_BASE:
        raise NoWay("the base of a way is from 2 to 12 or from -12 to -2")


def check_one_digit(entry):
    if not is_whole_number(entry):
        raise NoWay("each digit of a way is a whole number")
    if abs(entry) > LARGEST_DIGIT:
        raise NoWay("each digit of a way is from -40 to 40")


def check_digits(base, digits):
    size = abs(base)
    if not isinstance(digits, tuple) or len(digits) != size:
        raise NoWay("the digits of a way are a tuple of as many as the base has in size")
    for entry in digits:
        check_one_digit(entry)
    if 0 not in digits:
        raise NoWay("0 is among the digits of a way")
    if len(set([entry % size for entry in digits])) != size:
        raise NoWay("no two digits of a way differ by a multiple of the base")


def check_way(way):
    if not isinstance(way, tuple) or len(way) != 2:
        raise NoWay("a way is a tuple of two, its base and its digits")
    check_base(way[0])
    check_digits(way[0], way[1])


# From here on, what is called `checked` is a way that check_way has let pass: a walk has many steps,
# and the way need not be checked at each.

def digit_by(checked, number):
    matching = [entry for entry in checked[1] if (number - entry) % checked[0] == 0]
    return matching[0]


def follower_by(checked, number):
    return (number - digit_by(checked, number)) // checked[0]


def ring_from(checked, number):
    places = {}
    walk = []
    here = number
    while here != 0 and here not in places:
        places[here] = len(walk)
        walk.append(here)
        here = follower_by(checked, here)
    if here == 0:
        return None
    return walk[places[here]:]


def ring_bound(checked):
    # A follower is at most (size of the number + largest digit) / size of the base in size. So a number
    # beyond this bound has a follower nearer to nought, and none within it has one beyond: each ring lies within.
    largest = max([abs(entry) for entry in checked[1]])
    return largest // (abs(checked[0]) - 1)


def digit(way, number):
    check_way(way)
    return digit_by(way, number)


def follower(way, number):
    check_way(way)
    return follower_by(way, number)


def ring(way):
    check_way(way)
    bound = ring_bound(way)
    for number in range(-bound, bound + 1):
        found = ring_from(way, number)
        if found is not None:
            return found
    return None


def alike(way, other_way):
    check_way(way)
    check_way(other_way)
    return way[0] == other_way[0] and sorted(way[1]) == sorted(other_way[1])


def mirrored(way):
    check_way(way)
    return (way[0], tuple([-entry for entry in way[1]]))
