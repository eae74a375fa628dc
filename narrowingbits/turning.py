"""Turning and lightening: point [22] of the document."""

from narrowingbits.boxes import nearest_number
from narrowingbits.coefs import COLOURED_MODE
from narrowingbits.errors import BadField, Cut
from narrowingbits.lines import code_line, read_line, states
from narrowingbits.moving import fields_of, lines_of_stream
from narrowingbits.orders import lines_of
from narrowingbits.settings import Setting
from narrowingbits.streams import is_layered, stream_by_line

MIRROR = "M"
SWAP = "S"
# So many motions, mirror and swap by turns, bring each cell back to its place.
FULL_TURN = 8


def mirror(stream):
    """The stream of the picture whose cells (x, y) are moved to (-1 - x, y)."""
    return turned(stream, MIRROR)


def swap(stream):
    """The stream of the picture whose cells (x, y) are moved to (y, x)."""
    return turned(stream, SWAP)


def turned(stream, word):
    """The stream mirrored for each M and swapped for each S of the word, in order."""
    if not is_layered(stream):
        raise Cut()
    return turned_anew(stream, word)


def turned_anew(stream, word):
    """As turned, of a stream that is layered."""
    for letter in word:
        if letter not in (MIRROR, SWAP):
            raise BadField("motion")
    fields = fields_of(stream.setting)
    lines = told_lines(stream)
    for letter in shortened(word):
        if letter == MIRROR:
            lines = mirrored_lines(fields["word"], lines)
            fields = mirrored_fields(fields)
        else:
            lines = swapped_lines(lines)
            fields = swapped_fields(fields)
    return coded_lines(Setting(**fields), lines)


def shortened(word):
    """Motions of at most seven letters that move as those of the word do."""
    letters = []
    for letter in word:
        # Two of the same, one after the other, move nothing.
        if len(letters) > 0 and letters[-1] == letter:
            letters.pop()
        else:
            letters.append(letter)
    return letters[:len(letters) % FULL_TURN]


def told_lines(stream):
    """A dict from each line of a layered stream to its rows, nearest 0, and to how many layers it is told."""
    setting = stream.setting
    pieces = lines_of_stream(stream)
    found = {}
    for c, j, i, b, rect in lines_of(setting):
        model = read_line(rect, setting.planes, setting.layers, pieces[c, j, i, b])
        found[c, j, i, b] = (nearest_rows(model), layers_behind(setting.layers, model.pass_number))
    return found


def nearest_rows(model):
    """The rows of the numbers nearest 0 within what a line's model tells."""
    return [[nearest_number(stretch) for stretch in row] for row in model.stretches()]


def layers_behind(layers, pass_number):
    """How many layers end ahead of the pass or where it begins."""
    return len([k for k in range(len(layers)) if sum(layers[:k + 1]) <= pass_number])


def coded_lines(setting, lines):
    """The stream of lines as told_lines tells them, each with the pieces of its told layers."""
    pieces = {}
    for c, j, i, b, rect in lines_of(setting):
        rows, told = lines[c, j, i, b]
        coded = code_line(rect, setting.planes, setting.layers, rows)
        pieces[c, j, i, b] = coded[:told] + [[] for _ in coded[told:]]
    return stream_by_line(setting, pieces)


def mirrored_fields(fields):
    """The fields of the mirrored picture's setting."""
    x0, x1, y0, y1 = fields["rect"]
    return {**fields, "rect": (-x1, -x0, y0, y1)}


def swapped_fields(fields):
    """The fields of the swapped picture's setting."""
    x0, x1, y0, y1 = fields["rect"]
    word = "".join(["Y" if letter == "X" else "X" for letter in fields["word"]])
    return {**fields, "rect": (y0, y1, x0, x1), "tx": fields["ty"], "ty": fields["tx"], "word": word}


def mirrored_lines(word, lines):
    """The lines of the mirrored picture; the word is the setting's."""
    found = {}
    for (c, j, i, b), (rows, told) in lines.items():
        # The first of a pair becomes the second, so that the difference changes its sign.
        is_turned_about = b > 0 and word[len(word) - b] == "X"
        sign = -1 if is_turned_about else 1
        found[c, j, -1 - i, b] = ([[sign * number for number in row[::-1]] for row in rows], told)
    return found


def swapped_lines(lines):
    """The lines of the swapped picture."""
    found = {}
    for (c, j, i, b), (rows, told) in lines.items():
        found[c, i, j, b] = ([list(column) for column in zip(*rows)], told)
    return found


def lighten(stream, c):
    """The stream of the picture with c added to all samples."""
    return lightened(stream, base_rows(stream), c)


def base_rows(stream):
    """A dict from each line whose numbers make all samples lighter, (c, j, i, b), to its rect and rows.

    Raises Cut unless these lines are whole.
    """
    setting = stream.setting
    pieces = lines_of_stream(stream)
    found = {}
    for channel, j, i, b, rect in lines_of(setting):
        line = (channel, j, i, b)
        if b == 0 and (channel == 0 or setting.mode != COLOURED_MODE):
            told = states(rect, setting.planes, setting.layers, pieces[line])
            if told.count("exact") < len(told):
                raise Cut()
            found[line] = (rect, nearest_rows(read_line(rect, setting.planes, setting.layers, pieces[line])))
    return found


def lightened(stream, base, c):
    """The stream with c added to the numbers of its lines that base_rows told."""
    setting = stream.setting
    pieces = lines_of_stream(stream)
    for line, (rect, rows) in base.items():
        lighter = [[number + c for number in row] for row in rows]
        pieces[line] = code_line(rect, setting.planes, setting.layers, lighter)
    return stream_by_line(setting, pieces)
