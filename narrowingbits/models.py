"""The letters of a line: point [8] of the document."""

from narrowingbits.errors import Outside
from narrowingbits.grids import cells_of, check_rect
from narrowingbits.tables import Table

MOST_PLANES = 20
NEAR = 0
SHARPER = 1
FAR = 2
PASSES = 3
TABLE_SIZES = (3, 3, 3, 2, 2)
FRESH_TABLE = 3
OLD_TABLE = 4


class LineModel:
    """Says which letter of a line comes next, from the letters that it has taken."""

    def __init__(self, rect, planes):
        check_rect(rect)
        if not 1 <= planes <= MOST_PLANES:
            raise Outside()
        self._width = rect[1] - rect[0]
        self._planes = planes
        self._cells = cells_of(rect)
        self._neighbours = _neighbours_of(self._cells)
        greatest = (1 << planes) - 1
        self._stretches = [(-greatest, greatest) for _ in self._cells]
        # The plane in which a cell became nonzero; None while it is zero.
        self._since = [None for _ in self._cells]
        self._nonzero_beside = [0 for _ in self._cells]
        self._tables = [Table(size) for size in TABLE_SIZES]
        self._plane = planes
        self._queue = []
        self._place = 0
        self._begin_plane()

    def wanted(self):
        """None, or the table number, the number of letters and the cell of the wanted letter."""
        if self._is_complete():
            return None
        number = self._table_number()
        _, k = self._queue[self._place]
        return (number, TABLE_SIZES[number], self._cells[k])

    def wanted_counts(self):
        """The counts of the table of the wanted letter; [] if none is wanted."""
        if self._is_complete():
            return []
        return self._tables[self._table_number()].counts

    def take(self, letter):
        """Take the wanted letter."""
        if self._is_complete():
            raise Outside()
        number = self._table_number()
        # The table refuses a letter that it does not have; so it is asked ahead of all changes.
        self._tables[number].learn(letter)
        kind, k = self._queue[self._place]
        if kind == SHARPER:
            self._sharpen(k, letter)
        else:
            self._tell_sign(k, letter)
        self._place += 1
        if self._place == len(self._queue) and self._plane > 0:
            self._begin_plane()

    def stretches(self):
        """The rows of the rect, with the stretch that the letters leave for each cell."""
        width = self._width
        return [self._stretches[at:at + width] for at in range(0, len(self._stretches), max(1, width))]

    @property
    def pass_number(self):
        """The number of the pass of the wanted letter; behind all passes if none is wanted."""
        if self._place == len(self._queue):
            return PASSES * self._planes
        return PASSES * (self._planes - 1 - self._plane) + self._queue[self._place][0]

    def _is_complete(self):
        return self._place == len(self._queue)

    def _table_number(self):
        kind, k = self._queue[self._place]
        if kind != SHARPER:
            return min(2, self._nonzero_beside[k])
        return FRESH_TABLE if self._since[k] == self._plane + 1 else OLD_TABLE

    def _begin_plane(self):
        """Divide the cells among the passes of the next plane."""
        self._plane -= 1
        passes = [[], [], []]
        for k in range(len(self._cells)):
            passes[self._kind_of(k)].append(k)
        self._queue = [(kind, k) for kind in range(PASSES) for k in passes[kind]]
        self._place = 0

    def _kind_of(self, k):
        if self._since[k] is not None:
            return SHARPER
        return NEAR if self._nonzero_beside[k] > 0 else FAR

    def _sharpen(self, k, letter):
        """Halve the stretch of a nonzero cell; a 1 keeps the half that is farther from 0."""
        low, high = self._stretches[k]
        half = 1 << self._plane
        if (low > 0) == (letter == 1):
            self._stretches[k] = (low + half, high)
        else:
            self._stretches[k] = (low, high - half)

    def _tell_sign(self, k, letter):
        """Tell whether a cell that was zero is zero, positive or negative now."""
        least = 1 << self._plane
        if letter == 0:
            self._stretches[k] = (1 - least, least - 1)
            return
        greatest = 2 * least - 1
        self._stretches[k] = (least, greatest) if letter == 1 else (-greatest, -least)
        self._since[k] = self._plane
        for beside in self._neighbours[k]:
            self._nonzero_beside[beside] += 1


def _neighbours_of(cells):
    """For each cell the places of its neighbours in the list."""
    places = {cell: k for k, cell in enumerate(cells)}
    found = []
    for x, y in cells:
        beside = [(x - 1, y), (x + 1, y), (x, y - 1), (x, y + 1)]
        found.append([places[cell] for cell in beside if cell in places])
    return found
