"""Notes: rows written as texts, each with its base, and such texts read."""

from digitways.errors import NoNote
from digitways.rows import check_row
from digitways.ways import check_way

EMPTY_ROW_WRITTEN = "0"

# Here too, what is called `checked` is a way that check_way has let pass.


def opening_of(checked):
    return str(checked[0]) + ": "


def digits_by_figures(checked):
    found = {}
    for entry in checked[1]:
        found[str(entry)] = entry
    return found


def digits_written(checked, written):
    # Figures are held against those that shown writes, not made into numbers: Python takes many
    # a text for a number (+1, 01, 1_0, figures of other scripts) that is none here.
    digits = digits_by_figures(checked)
    found = []
    for figures in reversed(written.split(" ")):
        if figures not in digits:
            raise NoNote("behind the base stand digits of the way, each behind one blank")
        found.append(digits[figures])
    return found


def shown(way, row):
    check_way(way)
    check_row(way, row)
    if len(row) == 0:
        return opening_of(way) + EMPTY_ROW_WRITTEN
    return opening_of(way) + " ".join([str(entry) for entry in reversed(row)])


def read(way, text):
    check_way(way)
    opening = opening_of(way)
    if not text.startswith(opening):
        raise NoNote("a note begins with the base of the way, a colon and a blank")
    written = text[len(opening):]
    if written == EMPTY_ROW_WRITTEN:
        return []
    row = digits_written(way, written)
    if row[-1] == 0:
        raise NoNote("no needless 0 stands ahead of the digits")
    return row
