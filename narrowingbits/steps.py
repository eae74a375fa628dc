"""Steps, words and bands: point [7] of the document."""

from narrowingbits.errors import BadField, BadGrid, Outside
from narrowingbits.grids import Grid, check_rect, has_cells
from narrowingbits.pairs import back, pair

LETTERS = ("X", "Y")
MOST_LETTERS = 10


def low_rect(rect, letter):
    """The rect of the low part of a step."""
    x0, x1, y0, y1 = rect
    if letter == "X":
        return (x0 // 2, (x1 + 1) // 2, y0, y1)
    return (x0, x1, y0 // 2, (y1 + 1) // 2)


def high_rect(rect, letter):
    """The rect of the high part of a step."""
    x0, x1, y0, y1 = rect
    if letter == "X":
        return ((x0 + 1) // 2, x1 // 2, y0, y1)
    return (x0, x1, (y0 + 1) // 2, y1 // 2)


def band_rects(rect, word):
    """The rects of the bands of a rect with cells, in the order of the bands."""
    low = rect
    highs = []
    for letter in word:
        highs.append(high_rect(low, letter))
        low = low_rect(low, letter)
    return [low] + highs[::-1]


def halved(grid, letter):
    """The low and the high part of the grid."""
    rect = grid.rect
    _check_cells(rect)
    _check_letter(letter)
    start = rect[0] if letter == "X" else rect[2]
    lows = []
    highs = []
    for numbers in _along(grid.rows, letter):
        low, high = _halved_numbers(numbers, start)
        lows.append(low)
        highs.append(high)
    return (_grid(low_rect(rect, letter), lows, letter), _grid(high_rect(rect, letter), highs, letter))


def joined(low, high, rect, letter):
    """The grid whose low and high part these are."""
    check_rect(rect)
    _check_cells(rect)
    _check_letter(letter)
    if low.rect != low_rect(rect, letter) or high.rect != high_rect(rect, letter):
        raise BadGrid()
    start, stop = (rect[0], rect[1]) if letter == "X" else (rect[2], rect[3])
    lows = _along(low.rows, letter)
    # A high part without cells has no rows, but each row of the low part needs one beside it.
    highs = _along(high.rows, letter) or [[] for _ in lows]
    numbers = [_joined_numbers(one, other, start, stop) for one, other in zip(lows, highs)]
    return _grid(rect, numbers, letter)


def bands(grid, word):
    """The bands of the grid by the word."""
    _check_cells(grid.rect)
    _check_word(word)
    low = grid
    highs = []
    for letter in word:
        low, high = halved(low, letter)
        highs.append(high)
    return [low] + highs[::-1]


def unbands(parts, rect, word):
    """The grid whose bands by the word these are."""
    check_rect(rect)
    _check_cells(rect)
    _check_word(word)
    if [part.rect for part in parts] != band_rects(rect, word):
        raise BadGrid()
    low = parts[0]
    for number in reversed(range(len(word))):
        high = parts[len(word) - number]
        low = joined(low, high, band_rects(rect, word[:number])[0], word[number])
    return low


def _check_cells(rect):
    if not has_cells(rect):
        raise Outside()


def _check_letter(letter):
    if letter not in LETTERS:
        raise BadField("word")


def _check_word(word):
    if len(word) > MOST_LETTERS:
        raise BadField("word")
    for letter in word:
        _check_letter(letter)


def _along(rows, letter):
    """The rows for X, the columns for Y; asked twice for Y, they are the rows again."""
    if letter == "X":
        return rows
    return [list(column) for column in zip(*rows)]


def _grid(rect, numbers, letter):
    """The grid of a rect whose rows, or columns for Y, these numbers are."""
    return Grid(rect, _along(numbers, letter) if has_cells(rect) else [])


def _is_alone(i, start, stop):
    """Whether only one cell of the pair i is from start on and ahead of stop."""
    return 2 * i < start or 2 * i + 1 >= stop


def _halved_numbers(numbers, start):
    stop = start + len(numbers)
    low = []
    high = []
    for i in range(start // 2, (stop + 1) // 2):
        first = 2 * i - start
        if _is_alone(i, start, stop):
            low.append(numbers[max(0, first)])
        else:
            s, d = pair(numbers[first], numbers[first + 1])
            low.append(s)
            high.append(d)
    return (low, high)


def _joined_numbers(low, high, start, stop):
    numbers = []
    for i, s in enumerate(low, start=start // 2):
        if _is_alone(i, start, stop):
            numbers.append(s)
        else:
            numbers.extend(back(s, high[i - (start + 1) // 2]))
    return numbers
