"""Deeds on each frame of a film: point [27] of the document."""

from narrowingbits.cutting import keep_layers
from narrowingbits.errors import Cut
from narrowingbits.films import Film
from narrowingbits.moving import reorder, shift, shrink, take
from narrowingbits.streams import is_layered
from narrowingbits.turning import turned_anew


def film_shrink(film, n):
    """The film with shrink done to each frame."""
    return refilled(film, [shrink(stream, n) for stream in streams_of(film)])


def film_take(film, j0, j1, i0, i1):
    """The film with take done to each frame."""
    return refilled(film, [take(stream, j0, j1, i0, i1) for stream in streams_of(film)])


def film_shift(film, a, b):
    """The film with shift done to each frame."""
    return refilled(film, [shift(stream, a, b) for stream in streams_of(film)])


def film_turned(film, word):
    """The film with turned done to each frame."""
    streams = streams_of(film)
    for stream in streams:
        if not is_layered(stream):
            raise Cut()
    return refilled(film, [turned_anew(stream, word) for stream in streams])


def film_reorder(film, order):
    """The film with reorder done to each frame."""
    return refilled(film, [reorder(stream, order) for stream in streams_of(film)])


def film_keep_layers(film, m):
    """The film with keep_layers done to each frame."""
    return refilled(film, [keep_layers(stream, m) for stream in streams_of(film)])


def streams_of(film):
    """The streams of all frames."""
    return [stream for _, stream in film.frames]


def refilled(film, streams):
    """The film with the same leans and other streams, which are of one setting."""
    leans = [lean for lean, _ in film.frames]
    return Film(streams[0].setting, list(zip(leans, streams)))
