"""Films for tests: pictures, leans, and what frames hold, by the words of points [25] and [26]."""

import random

from narrowingbits.coefs import picture_of
from narrowingbits.films import Film
from narrowingbits.orders import ORDERS
from narrowingbits.settings import Setting
from narrowingbits.streams import Stream, code

from head_reference import count_code, head_of
from picture_reference import changed, fields_of, filled_rows, some_settings, spoilt, stream_told

FILM_MARK = [1, 0, 1, 1, 0, 0, 1, 1]
LEANS = ((None,), (None, 0), (None, None), (None, 0, 1), (None, 0, 0, None, 3, 1), (None, 0, 1, 2, 3, 4, 5, 6),
         (None, 0, None, 2, 1, 0, 3, None))
TWO_CELLS = Setting((0, 2, 0, 1), 0, 1, 0, "X", 3, (9,), "LBTC")


def combined(rows, others, sign):
    """Rows of lines, number by number with the others, added or taken off."""
    return [[[a + sign * b for a, b in zip(row, other)] for row, other in zip(line, other_line)]
            for line, other_line in zip(rows, others)]


def some_frames(setting, leans, seed, most=None):
    """What is in the frames of a film: (coefs of the pictures, what the streams hold)."""
    source = random.Random(seed)
    most = 2 ** setting.planes - 1 if most is None else most
    held, coefs = [], []
    for lean in leans:
        rows = filled_rows(setting, lambda: source.choice((0, source.randint(-most, most))))
        held.append(rows)
        coefs.append(rows if lean is None else combined(rows, coefs[lean], 1))
    return coefs, held


def some_pictures(setting, leans, seed, most=None):
    """Pictures of which a film of these leans can be made."""
    return [picture_of(rows, setting) for rows in some_frames(setting, leans, seed, most)[0]]


def streams_by_words(pictures_coefs, setting, leans):
    """The streams of a film: code of the picture whose coefs are the differences."""
    found = []
    for rows, lean in zip(pictures_coefs, leans):
        rows = rows if lean is None else combined(rows, pictures_coefs[lean], -1)
        found.append(code(picture_of(rows, setting), setting))
    return found


def film_settings():
    """A few settings with leans for each."""
    for number, setting in enumerate(some_settings()):
        yield changed(setting, order=ORDERS[number * 11 % 24]), LEANS[number % len(LEANS)]


def made_film(setting, leans, seed, most=None):
    """The film of these frames, by the constructor."""
    coefs, _ = some_frames(setting, leans, seed, most)
    return Film(setting, list(zip(leans, streams_by_words(coefs, setting, leans))))


def spoilt_film(film, seed, only=None):
    """The film with the streams of some frames spoilt."""
    source = random.Random(seed)
    frames = []
    for number, (lean, stream) in enumerate(film.frames):
        if number in only if only is not None else source.randrange(2):
            stream = spoilt(stream, seed + number)
        frames.append((lean, stream))
    return Film(film.setting, frames)


def with_streams(film, streams):
    """The film with other streams in some frames, a dict from their numbers."""
    return Film(film.setting, [(lean, streams.get(number, stream)) for number, (lean, stream) in
                               enumerate(film.frames)])


def broken(stream):
    """The stream with its last piece that has bits cut short."""
    pieces = stream.pieces
    at = max(number for number, piece in enumerate(pieces) if piece)
    pieces[at] = pieces[at][:-1]
    return Stream(stream.setting, pieces)


def film_told(film):
    """What a film tells."""
    return (fields_of(film.setting), [lean for lean, _ in film.frames],
            [stream_told(stream) for _, stream in film.frames])


def front_of(film):
    """The bits ahead of a film's payload."""
    frames = film.frames
    bits = FILM_MARK + head_of(film.setting)[8:] + count_code(len(frames) - 1)
    for number, (lean, _) in enumerate(frames):
        bits += count_code(0 if lean is None else number - lean)
    for _, stream in frames:
        for piece in stream.pieces:
            bits += count_code(len(piece))
    return bits


def payload_of(film):
    return [bit for _, stream in film.frames for piece in stream.pieces for bit in piece]


def bits_of_film(film):
    return front_of(film) + payload_of(film)


def cut_by_words(film, n):
    """The film whose pieces are what is there of them in the first n bits of its payload."""
    left = n
    frames = []
    for lean, stream in film.frames:
        pieces = []
        for piece in stream.pieces:
            pieces.append(piece[:left])
            left = max(0, left - len(piece))
        frames.append((lean, Stream(film.setting, pieces)))
    return Film(film.setting, frames)
