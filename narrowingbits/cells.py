"""Protected bits: points [28] and [29] of the document."""

from narrowingbits.bits import check_bits, count_at, count_bits
from narrowingbits.checks import CHECK_BITS, check_of
from narrowingbits.errors import BadCells, Great, Outside

LOAD_BITS = 48
CELL_BITS = LOAD_BITS + CHECK_BITS
MOST_GROUP = 8
MOST_PROTECTED = 10 ** 6


def protect(bits, group):
    """The bits as cells with checks, and behind each group of cells a parity cell."""
    check_bits(bits)
    if len(bits) > MOST_PROTECTED:
        raise Great()
    check_group(group)
    filled = count_bits(len(bits)) + list(bits)
    filled.extend([0] * (-len(filled) % LOAD_BITS))
    loads = parts_of(filled, LOAD_BITS)
    found = []
    for data in parts_of(loads, group):
        for load in data + [parity_of(data)]:
            found.extend(load + check_of(load))
    return found


def good(protected, group):
    """For each cell whether it is good."""
    check_cells(protected, group)
    return [is_good(cell) for cell in parts_of(protected, CELL_BITS)]


def open_cells(protected, group):
    """The protected bits, None for each that is unknown; None if the first data cell is unknown."""
    check_cells(protected, group)
    loads = []
    for cells in parts_of(parts_of(protected, CELL_BITS), group + 1):
        loads.extend(opened_group(cells))
    if loads[0] is None:
        return None
    start, stop = span_told(loads)
    opened = []
    for load in loads:
        opened.extend([None] * LOAD_BITS if load is None else load)
    if 1 in opened[stop:]:
        raise BadCells()
    return opened[start:stop]


def parts_of(things, size):
    """The things in lists of that size, the last one perhaps shorter."""
    return [list(things[at:at + size]) for at in range(0, len(things), size)]


def parity_of(loads):
    """The exclusive-or of the loads."""
    return [sum(bits) % 2 for bits in zip(*loads)]


def is_good(cell):
    """Whether the cell ends in the check of its load."""
    return check_of(cell[:LOAD_BITS]) == cell[LOAD_BITS:]


def check_group(group):
    """Raise Outside for a group number that is none."""
    if not 1 <= group <= MOST_GROUP:
        raise Outside()


def check_cells(protected, group):
    """Raise what good raises."""
    check_bits(protected)
    check_group(group)
    cell_count = len(protected) // CELL_BITS
    # A group of one cell would be a parity cell of nothing.
    if cell_count < 1 or len(protected) % CELL_BITS != 0 or cell_count % (group + 1) == 1:
        raise BadCells()


def opened_group(cells):
    """The loads of the data cells of a group, None for each that is unknown; its parity cell is the last."""
    loads = [cell[:LOAD_BITS] if is_good(cell) else None for cell in cells]
    if loads.count(None) == 1:
        # All loads of a group together have the parity nought, so that the others give the lost one.
        others = [load for load in loads if load is not None]
        loads[loads.index(None)] = parity_of(others)
    return loads[:-1]


def span_told(loads):
    """Where the protected bits begin and end in the loads of all data cells, the first of which is known."""
    told = count_at(loads[0], 0)
    if told[0] != "read":
        raise BadCells()
    _, count, start = told
    if count > MOST_PROTECTED or -(-(start + count) // LOAD_BITS) != len(loads):
        raise BadCells()
    return (start, start + count)
