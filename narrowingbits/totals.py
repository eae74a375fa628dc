"""Sums of samples: point [17] of the document."""

from narrowingbits.bounds import FIRST, PLAIN, SECOND, check_channel, summed, tables_of, way_of
from narrowingbits.gaps import check_not_coloured
from narrowingbits.grids import cells_of


def total(box, c):
    """The least and the greatest sum of all samples of a channel."""
    check_total(box, c)
    table = tables_of(box)[c]
    counts = cell_counts(box.setting)
    return summed([_term_ends(counts[place], table[place]) for place in counts])


def check_total(box, c):
    """Raise what total raises."""
    check_not_coloured(box.setting)
    check_channel(box.setting, c)


def cell_counts(setting):
    """A dict from the place (j, i, b, x, y) of each coef of a line channel to numbers of cells.

    These are the numbers of cells on whose way it comes in PLAIN, as FIRST and as SECOND, that is of
    those below its low cell for band 0, of those below its first and its second for others.
    """
    counts = {}
    for x, y in cells_of(setting.rect):
        for place, part in way_of(setting, x, y):
            if place not in counts:
                counts[place] = [0, 0, 0]
            counts[place][part] += 1
    return counts


def worth_of(count, number):
    """What a coef of that number brings to the sum."""
    return count[PLAIN] * number + count[FIRST] * ((number + 1) // 2) - count[SECOND] * (number // 2)


def turning_numbers(stretch):
    """The numbers of a stretch, ascending, one of which makes a coef bring the least or the most.

    From a number to the next but one it brings always the same more, so that the ends tell.
    """
    low, high = stretch
    return [number for number in sorted([low, low + 1, high - 1, high]) if low <= number <= high]


def _term_ends(count, stretch):
    worths = [worth_of(count, number) for number in turning_numbers(stretch)]
    return (min(worths), max(worths))
