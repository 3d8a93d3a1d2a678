"""Rows of digits by a way: their values, sums, products and carries, and rows brought from way to way."""

from digitways.errors import NoDigits, NoRow
from digitways.ways import check_way, digit_by, follower_by, ring_from

# Here too, what is called `checked` is a way that check_way has let pass.


def is_row_by(checked, row):
    if len(row) > 0 and row[-1] == 0:
        return False
    return all([entry in checked[1] for entry in row])


def check_row(checked, row):
    if not is_row_by(checked, row):
        raise NoRow("a row is a list of digits of the way, the last one of which is not 0")


def check_two_rows(checked, one, other):
    check_row(checked, one)
    check_row(checked, other)


def value_by(checked, row):
    total = 0
    for entry in reversed(row):
        total = total * checked[0] + entry
    return total


def row_by(checked, number):
    # Only a walk that comes to 0 may be written down: any other one would go on for ever.
    found = ring_from(checked, number)
    if found is not None:
        raise NoDigits(found)
    row = []
    here = number
    while here != 0:
        row.append(digit_by(checked, here))
        here = follower_by(checked, here)
    return row


def entry_at(row, place):
    return row[place] if place < len(row) else 0


def is_row(way, row):
    check_way(way)
    return is_row_by(way, row)


def value(way, row):
    check_way(way)
    check_row(way, row)
    return value_by(way, row)


def row_of(way, number):
    check_way(way)
    return row_by(way, number)


def added(way, one, other):
    check_way(way)
    check_two_rows(way, one, other)
    return row_by(way, value_by(way, one) + value_by(way, other))


def multiplied(way, one, other):
    check_way(way)
    check_two_rows(way, one, other)
    return row_by(way, value_by(way, one) * value_by(way, other))


def carries(way, one, other):
    check_way(way)
    check_two_rows(way, one, other)
    told = [0]
    for place in range(max(len(one), len(other))):
        number = entry_at(one, place) + entry_at(other, place) + told[place]
        told.append(follower_by(way, number))
    return told


def brought(way, other_way, row):
    check_way(way)
    check_way(other_way)
    check_row(way, row)
    return row_by(other_way, value_by(way, row))
