"""Films as bits and back: point [26] of the document."""

from narrowingbits.bits import check_bits, count_bits
from narrowingbits.errors import BadBits, BadField, Outside, Over
from narrowingbits.filmboxes import frame_boxes
from narrowingbits.films import MOST_FRAMES, Film
from narrowingbits.heads import MARK, StreamReader, head_bits, pieces_in, thing_at
from narrowingbits.orders import pieces_of
from narrowingbits.streams import MOST_BITS, Stream

FILM_MARK = (1, 0, 1, 1, 0, 0, 1, 1)


def film_bits(film):
    """Head, leans, index and payload of the film."""
    frames = film.frames
    bits = list(FILM_MARK) + head_bits(film.setting)[len(MARK):] + count_bits(len(frames) - 1)
    for number, (lean, _) in enumerate(frames):
        bits.extend(count_bits(0 if lean is None else number - lean))
    pieces = film_pieces(film)
    for piece in pieces:
        bits.extend(count_bits(len(piece)))
    return bits + joined_pieces(pieces)


def read_film(bits):
    """The film whose bits these are."""
    check_bits(bits)
    front = read_front(bits)
    if front is None:
        raise BadBits()
    setting, leans, lengths, start = front
    if len(bits) - start < sum(lengths):
        raise BadBits()
    return filled_film(setting, leans, pieces_in(bits[start:], lengths))


def told_film(bits):
    """The boxes of all frames, as far as the bits tell them; None while the index is not whole."""
    check_bits(bits)
    front = read_front(bits)
    if front is None:
        return None
    setting, leans, lengths, start = front
    return frame_boxes(filled_film(setting, leans, pieces_in(bits[start:], lengths)))


def film_cut(film, n):
    """The film with the first n bits of its payload."""
    pieces = film_pieces(film)
    bits = joined_pieces(pieces)
    if not 0 <= n <= len(bits):
        raise Outside()
    leans = [lean for lean, _ in film.frames]
    return filled_film(film.setting, leans, pieces_in(bits[:n], [len(piece) for piece in pieces]))


def film_pieces(film):
    """The pieces of all frames, frame by frame."""
    return [list(piece) for _, stream in film.frames for piece in stream]


def joined_pieces(pieces):
    """The bits of the pieces, one behind the other."""
    return [bit for piece in pieces for bit in piece]


def filled_film(setting, leans, pieces):
    """The film of these leans; the pieces of all frames stand in one list."""
    size = len(pieces_of(setting))
    streams = [Stream(setting, pieces[at:at + size]) for at in range(0, len(pieces), size)]
    return Film(setting, list(zip(leans, streams)))


def read_front(bits):
    """What stands ahead of the payload, None while it is not all there.

    It is the setting, the leans, the lengths of all pieces, and the place behind them.
    """
    told = setting_at_start(bits)
    if told is None:
        return None
    setting, at = told
    told = counts_at(bits, at, "frames", [MOST_FRAMES - 1])
    if told is None:
        return None
    counts, at = told
    frame_count = counts[0] + 1
    told = counts_at(bits, at, "lean", list(range(frame_count)))
    if told is None:
        return None
    steps, at = told
    leans = [None if step == 0 else number - step for number, step in enumerate(steps)]
    told = counts_at(bits, at, "length", [MOST_BITS] * (frame_count * len(pieces_of(setting))))
    if told is None:
        return None
    lengths, at = told
    if len(bits) - at > sum(lengths):
        raise Over()
    return (setting, leans, lengths, at)


def setting_at_start(bits):
    """The setting of the film and the place behind it; None while it is not all there."""
    start = len(FILM_MARK)
    if len(bits) < start:
        return None
    if tuple(bits[:start]) != FILM_MARK:
        raise BadField("mark")
    # But for its mark a film's head is that of a stream.
    reader = StreamReader()
    reader.read(list(MARK))
    for place in range(start, len(bits)):
        reader.read([bits[place]])
        if reader.setting is not None:
            return (reader.setting, place + 1)
    return None


def counts_at(bits, at, name, greatest):
    """Counts of that name, one for each of their greatest worths, and the place behind them.

    None while they are not all there.
    """
    counts = []
    for most in greatest:
        told = thing_at(bits, at, name, {})
        if told[0] == "short":
            return None
        _, count, at = told
        if count > most:
            raise BadField(name)
        counts.append(count)
    return (counts, at)
