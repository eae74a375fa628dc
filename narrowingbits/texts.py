"""Settings and pictures as texts and back: point [31] of the document."""

from narrowingbits.errors import BadGrid, BadText, Great
from narrowingbits.pictures import Picture
from narrowingbits.settings import MOST_SIDE, Setting

FIGURES = "0123456789"
MOST_FIGURES = 12
LEAST_GREAT = 10 ** 12
WORD_LETTERS = "XY"
ORDER_LETTERS = "BCLT"
EMPTY_WORD = "-"
SETTING_ROWS = 7


def text_of_setting(setting):
    """The text of the setting."""
    rows = [named_row("rect", setting.rect),
            named_row("mode", [setting.mode]),
            named_row("tiles", [setting.tx, setting.ty]),
            f"word {setting.word or EMPTY_WORD}",
            named_row("planes", [setting.planes]),
            named_row("layers", setting.layers),
            f"order {setting.order}"]
    return "\n".join(rows)


def text_of_picture(picture):
    """The text of the picture."""
    channels = picture.channels
    rows = [named_row("rect", picture.rect), named_row("channels", [len(channels)])]
    for channel in channels:
        rows.extend([joined_numbers(row) for row in channel])
    return "\n".join(rows)


def setting_of(text):
    """The setting whose text this is."""
    rows = text.split("\n")
    rect = numbers_behind(rows, 0, "rect", 4)
    mode = numbers_behind(rows, 1, "mode", 1)[0]
    tx, ty = numbers_behind(rows, 2, "tiles", 2)
    word = word_behind(rows, 3, "word")
    if word != EMPTY_WORD and not is_written_in(word, WORD_LETTERS):
        raise BadText(3)
    planes = numbers_behind(rows, 4, "planes", 1)[0]
    layers = numbers_behind(rows, 5, "layers", None)
    order = word_behind(rows, 6, "order")
    if len(order) != len(ORDER_LETTERS) or not is_written_in(order, ORDER_LETTERS):
        raise BadText(6)
    if len(rows) > SETTING_ROWS:
        raise BadText(SETTING_ROWS)
    return Setting(tuple(rect), mode, tx, ty, "" if word == EMPTY_WORD else word, planes, layers, order)


def picture_read(text):
    """The picture whose text this is."""
    rows = text.split("\n")
    x0, x1, y0, y1 = numbers_behind(rows, 0, "rect", 4)
    many = numbers_behind(rows, 1, "channels", 1)[0]
    width, height = x1 - x0, y1 - y0
    if not (1 <= width <= MOST_SIDE and 1 <= height <= MOST_SIDE and many in (1, 3)):
        raise BadGrid()
    numbers = []
    for row in range(2, 2 + many * height):
        numbers.append(numbers_of_words(words_of(rows, row), row, width))
    if len(rows) > 2 + many * height:
        raise BadText(2 + many * height)
    channels = [numbers[start:start + height] for start in range(0, len(numbers), height)]
    return Picture((x0, x1, y0, y1), channels)


def named_row(name, numbers):
    """A row of a name and numbers."""
    return f"{name} {joined_numbers(numbers)}"


def joined_numbers(numbers):
    """Numbers as words that are parted by blanks."""
    return " ".join([number_written(number) for number in numbers])


def number_written(number):
    """The word of the number."""
    if abs(number) >= LEAST_GREAT:
        raise Great()
    return str(number)


def words_of(rows, row):
    """The words of the row of that number."""
    if row >= len(rows):
        raise BadText(row)
    return rows[row].split(" ")


def words_behind(rows, row, name):
    """The words of a row behind the name with which it begins."""
    words = words_of(rows, row)
    if words[0] != name:
        raise BadText(row)
    return words[1:]


def word_behind(rows, row, name):
    """The only word of a row behind its name."""
    words = words_behind(rows, row, name)
    if len(words) != 1:
        raise BadText(row)
    return words[0]


def numbers_behind(rows, row, name, many):
    """The numbers of a row behind its name; None stands for one at least."""
    return numbers_of_words(words_behind(rows, row, name), row, many)


def numbers_of_words(words, row, many):
    """So many numbers that the words of a row write; None stands for one at least."""
    if len(words) == 0 or many is not None and len(words) != many:
        raise BadText(row)
    for word in words:
        if not is_number_word(word):
            raise BadText(row)
    return [int(word) for word in words]


def is_number_word(word):
    """Whether the word is just as a number is written."""
    figures = word.removeprefix("-")
    if len(figures) > MOST_FIGURES or not is_written_in(figures, FIGURES):
        return False
    return figures[0] != "0" or word == "0"


def is_written_in(word, letters):
    """Whether the word has a letter and no other ones than these."""
    for letter in word:
        if letter not in letters:
            return False
    return word != ""
