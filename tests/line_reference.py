"""Lines by the words of points [8] and [9], step by step and slowly, for tests to compare with."""

from narrowingbits.ranges import Ranger
from narrowingbits.tables import Table

SIZES = (3, 3, 3, 2, 2)


def cells_of(rect):
    x0, x1, y0, y1 = rect
    return [(x, y) for y in range(y0, y1) for x in range(x0, x1)]


def numbers_of(rect, rows):
    return {(x, y): rows[y - rect[2]][x - rect[0]] for x, y in cells_of(rect)}


def neighbours(cell, cells):
    x, y = cell
    return [other for other in ((x - 1, y), (x + 1, y), (x, y - 1), (x, y + 1)) if other in cells]


def letters_by_the_point(rect, planes, rows):
    """All letters of a line by the words of the point: (pass, table, cell, letter)."""
    numbers = numbers_of(rect, rows)
    born = {}
    found = []
    for q in range(3 * planes):
        p = planes - 1 - q // 3
        if q % 3 == 0:
            division = {}
            for cell in numbers:
                if cell in born:
                    division[cell] = 1
                elif any(other in born for other in neighbours(cell, numbers)):
                    division[cell] = 0
                else:
                    division[cell] = 2
        for cell in numbers:
            if division[cell] != q % 3:
                continue
            v = numbers[cell]
            if q % 3 == 1:
                found.append((q, 3 if born[cell] == p + 1 else 4, cell, abs(v) // 2 ** p % 2))
                continue
            table = min(2, len([other for other in neighbours(cell, numbers) if other in born]))
            letter = 0 if abs(v) < 2 ** p else 1 if v >= 2 ** p else 2
            found.append((q, table, cell, letter))
            if letter:
                born[cell] = p
    return found


def stretch_by_the_point(v, p):
    """The stretch of a number behind its letter of plane p; ahead of all letters p is planes."""
    if abs(v) < 2 ** p:
        return (-2 ** p + 1, 2 ** p - 1)
    h = abs(v) // 2 ** p
    if v > 0:
        return (h * 2 ** p, (h + 1) * 2 ** p - 1)
    return (-(h + 1) * 2 ** p + 1, -h * 2 ** p)


def some_lines():
    """Lines (rect, planes, rows) of many forms."""
    rects = ((0, 1, 0, 1), (0, 2, 0, 1), (5, 6, -3, 0), (-1, 2, -1, 2), (0, 4, 0, 3), (-7, -2, 4, 8))
    for number, rect in enumerate(rects):
        for planes in (1, 2, 3, 5, 20):
            for seed in range(4):
                rows = []
                for y in range(rect[2], rect[3]):
                    row = []
                    for x in range(rect[0], rect[1]):
                        n = (x * 73 + y * 151 + seed * 37 + number * 11) ** 5 % (2 * 2 ** planes - 1)
                        small = (x + y + seed) % (seed + 1) > 0
                        row.append(0 if small else n - 2 ** planes + 1)
                    rows.append(row)
                yield rect, planes, rows


def pieces_by_the_point(rect, planes, layers, rows):
    """The pieces of a line, one for each layer."""
    tables = [Table(size) for size in SIZES]
    letters = letters_by_the_point(rect, planes, rows)
    pieces = []
    start = 0
    for many in layers:
        ranger = Ranger()
        for q, table, _, letter in letters:
            if start <= q < start + many:
                ranger.take(tables[table].counts, letter)
                tables[table].learn(letter)
        pieces.append(ranger.end())
        start += many
    return pieces
