"""Protected bits by the words of point [28], for tests."""

import random

from head_reference import count_code

LOAD = 48
CELL = 56


def remainder(bits):
    """The check as the rest of a division of polynomials: of the bits times x ** 8 by x ** 8 + x ** 2 + x + 1."""
    number = 0
    for bit in bits:
        number = 2 * number + bit
    number *= 256
    for place in range(len(bits) + 7, 7, -1):
        if number >> place & 1:
            number ^= 0b100000111 << (place - 8)
    return [number >> place & 1 for place in range(7, -1, -1)]


def some_bits(length, seed=0):
    source = random.Random(seed * 1000003 + length)
    return [source.randint(0, 1) for _ in range(length)]


def loads_of(bits):
    """The loads of the data cells."""
    filled = count_code(len(bits)) + bits
    while len(filled) % LOAD:
        filled.append(0)
    return [filled[at:at + LOAD] for at in range(0, len(filled), LOAD)]


def cell_of(load):
    return load + remainder(load)


def parity(loads):
    return [sum(column) % 2 for column in zip(*loads)]


def cells_of_loads(loads, group):
    """The cells of these loads, parity cells too, one list for each."""
    found = []
    for at in range(0, len(loads), group):
        part = loads[at:at + group]
        found += [cell_of(load) for load in part] + [cell_of(parity(part))]
    return found


def protected_by_words(bits, group):
    return [bit for cell in cells_of_loads(loads_of(bits), group) for bit in cell]


def data_numbers(count, group):
    """For each cell, of so many, the number of its data cell, None for a parity cell."""
    found = []
    data = 0
    for number in range(count):
        if number % (group + 1) == group or number == count - 1:
            found.append(None)
        else:
            found.append(data)
            data += 1
    return found


def flipped(protected, flips):
    """The bits with those flipped that the flips (number of the cell, place) name."""
    found = list(protected)
    for number, place in flips:
        found[number * CELL + place] ^= 1
    return found


def group_of(number, group):
    return number // (group + 1)


def opened_by_words(bits, group, bad):
    """What is opened where the cells of these numbers are not good; None if nothing is."""
    loads = loads_of(bits)
    data = data_numbers(len(cells_of_loads(loads, group)), group)
    groups = [group_of(number, group) for number in bad]
    unknown = [data[number] for number in bad if groups.count(group_of(number, group)) > 1 and data[number] is not None]
    if 0 in unknown:
        return None
    start = len(count_code(len(bits)))
    return [None if (start + at) // LOAD in unknown else bit for at, bit in enumerate(bits)]
