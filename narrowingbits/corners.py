"""Members that reach an end: point [17] of the document."""

from narrowingbits.boxes import member
from narrowingbits.bounds import SECOND, channel_parts, check_cell, check_channel, tables_of, way_of
from narrowingbits.gaps import check_gap, gap_terms
from narrowingbits.totals import cell_counts, check_total, turning_numbers, worth_of


def corner(box, c, x, y, greatest):
    """The member that reaches the greatest, or the least, end of a sample."""
    check_channel(box.setting, c)
    check_cell(box.setting, x, y)
    tables = tables_of(box)
    chosen = {}
    for channel, channel_part in channel_parts(box.setting.mode, c):
        for place, part in way_of(box.setting, x, y):
            # Down of down is up.
            is_up = (channel_part == SECOND) == (part == SECOND)
            chosen[(channel,) + place] = _end(tables[channel][place], is_up == greatest)
    return member(box, chosen)


def gap_corner(box, c, p, q, greatest):
    """The member that reaches the greatest, or the least, end of a gap."""
    check_gap(box, c, p, q)
    table = tables_of(box)[c]
    chosen = {}
    for place, part, is_added in gap_terms(box.setting, p, q):
        is_up = (part != SECOND) == is_added
        chosen[(c,) + place] = _end(table[place], is_up == greatest)
    return member(box, chosen)


def total_corner(box, c, greatest):
    """The member that reaches the greatest, or the least, end of a total."""
    check_total(box, c)
    table = tables_of(box)[c]
    counts = cell_counts(box.setting)
    chosen = {}
    for place in counts:
        chosen[(c,) + place] = _turning_number(counts[place], table[place], greatest)
    return member(box, chosen)


def _end(stretch, is_high):
    low, high = stretch
    return high if is_high else low


def _turning_number(count, stretch, greatest):
    """The least number of those that tell the ends of a term which reaches the asked end."""
    numbers = turning_numbers(stretch)
    worths = [worth_of(count, number) for number in numbers]
    return numbers[worths.index(max(worths) if greatest else min(worths))]
