"""Differences of samples: point [17] of the document."""

from narrowingbits.bounds import (FIRST, PLAIN, check_cell, check_channel, part_ends, summed, tables_of,
                                  way_of)
from narrowingbits.coefs import COLOURED_MODE
from narrowingbits.errors import Coloured


def gap(box, c, p, q):
    """The least and the greatest difference of the sample at p and that at q."""
    check_gap(box, c, p, q)
    table = tables_of(box)[c]
    return summed([_term_ends(term, table) for term in gap_terms(box.setting, p, q)])


def surely(box, c, p, q):
    """Whether the sample at p is above that at q in each member."""
    least, _ = gap(box, c, p, q)
    return least > 0


def check_not_coloured(setting):
    """Raise Coloured in the mode whose line channels are not the picture's channels."""
    if setting.mode == COLOURED_MODE:
        raise Coloured()


def check_gap(box, c, p, q):
    """Raise what gap raises."""
    check_not_coloured(box.setting)
    check_channel(box.setting, c)
    for x, y in (p, q):
        check_cell(box.setting, x, y)


def gap_terms(setting, p, q):
    """The terms of a difference: (place, how its coef comes in, whether that is added).

    Ways that came to one low cell go on together, and what comes in there cancels out. In the step
    that leads to that cell one way is the first of the pair and the other one the second: of that
    coef, d itself is left.
    """
    way = way_of(setting, p[0], p[1])
    other_way = way_of(setting, q[0], q[1])
    parts = dict(way)
    other_parts = dict(other_way)
    terms = [(place, part, True) for place, part in way if place not in other_parts]
    terms.extend([(place, part, False) for place, part in other_way if place not in parts])
    for place, part in way:
        if place in other_parts and part != other_parts[place]:
            terms.append((place, PLAIN, part == FIRST))
    return terms


def _term_ends(term, table):
    place, part, is_added = term
    low, high = part_ends(part, table[place])
    return (low, high) if is_added else (-high, -low)
