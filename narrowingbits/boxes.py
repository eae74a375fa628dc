"""Boxes: point [15] of the document, and the stretches of point [1]."""

from narrowingbits.bits import is_number
from narrowingbits.coefs import coefs_of, flat_of, picture_of, places_of, rows_of
from narrowingbits.errors import BadGrid, Unlike
from narrowingbits.grids import rows_fit
from narrowingbits.orders import lines_of


class Box:
    """A setting and a stretch for each coef; its members are the pictures within all stretches."""

    def __init__(self, setting, rows):
        lines = list(lines_of(setting))
        if len(rows) != len(lines):
            raise BadGrid()
        for (_, _, _, _, rect), stretches in zip(lines, rows):
            if not stretches_fit(stretches, rect):
                raise BadGrid()
        self.setting = setting
        # In the order of their places.
        self._flat = flat_of(rows)

    def stretches(self):
        """The rows of stretches of each line, in line order."""
        return rows_of(self.setting, self._flat)

    def members(self):
        """The number of members."""
        number = 1
        for low, high in self._flat:
            number = number * (high - low + 1)
        return number

    def has(self, picture):
        """Whether the picture is a member."""
        numbers = flat_of(coefs_of(picture, self.setting))
        for number, (low, high) in zip(numbers, self._flat):
            if not low <= number <= high:
                return False
        return True

    def __contains__(self, picture):
        return self.has(picture)

    def inside(self, other):
        """Whether all members are members of the other box."""
        for (low, high), (other_low, other_high) in zip(self._flat, flat_beside(self, other)):
            if low < other_low or high > other_high:
                return False
        return True

    def meet(self, other):
        """The box of the members of both; None if there are none."""
        met = []
        for (low, high), (other_low, other_high) in zip(self._flat, flat_beside(self, other)):
            low, high = max(low, other_low), min(high, other_high)
            if low > high:
                return None
            met.append((low, high))
        return Box(self.setting, rows_of(self.setting, met))

    def nearest(self):
        """The member with each coef nearest 0."""
        return member(self, {})


def is_stretch(thing):
    """Whether the thing is a stretch."""
    if not isinstance(thing, tuple) or len(thing) != 2:
        return False
    low, high = thing
    return is_number(low) and is_number(high) and low <= high


def stretches_fit(rows, rect):
    """Whether these are rows of stretches that fit the rect."""
    if not isinstance(rows, (list, tuple)):
        return False
    for row in rows:
        if not isinstance(row, (list, tuple)) or not all([is_stretch(thing) for thing in row]):
            return False
    return rows_fit([[low for low, _ in row] for row in rows], rect)


def nearest_number(stretch):
    """The number of the stretch that is nearest 0."""
    low, high = stretch
    return max(low, min(high, 0))


def geometry_of(setting):
    """What boxes must have in common to be compared."""
    return (setting.rect, setting.mode, setting.tx, setting.ty, setting.word)


def flat_beside(box, other):
    """The stretches of the other box, each at the same place as that of the box."""
    if geometry_of(box.setting) != geometry_of(other.setting):
        raise Unlike()
    return flat_of(other.stretches())


def member(box, chosen):
    """The member with the chosen numbers, a dict by places (c, j, i, b, x, y), the others nearest 0."""
    numbers = []
    for place, stretch in zip(places_of(box.setting), flat_of(box.stretches())):
        numbers.append(chosen[place] if place in chosen else nearest_number(stretch))
    return picture_of(rows_of(box.setting, numbers), box.setting)
