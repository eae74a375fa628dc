"""Deeds on the frames of a film together: point [27] of the document."""

from narrowingbits.coefs import coefs_of, flat_of
from narrowingbits.errors import Last, Outside, TooMany
from narrowingbits.films import (MOST_FRAMES, Film, check_alike, check_frame, check_lean, coded_numbers,
                                 frame_numbers, less, numbers_of)
from narrowingbits.turning import base_rows, lightened


def film_lighten(film, c):
    """The film of the pictures with c added to all samples."""
    frames = film.frames
    # Each key is asked whether it is whole enough before one is coded anew.
    bases = [base_rows(stream) if lean is None else {} for lean, stream in frames]
    changed = []
    for (lean, stream), base in zip(frames, bases):
        changed.append((lean, lightened(stream, base, c) if lean is None else stream))
    return Film(film.setting, changed)


def relean(film, n, m):
    """The film of the same pictures in which the frame n leans on m, or is a key for None."""
    check_frame(film, n)
    if m is not None and not 0 <= m < n:
        raise Outside()
    numbers = frame_numbers(film, n)
    base = None if m is None else frame_numbers(film, m)
    frames = list(film.frames)
    frames[n] = (m, coded_numbers(less(numbers, base), film.setting))
    return Film(film.setting, frames)


def leave_out(film, k):
    """The film without the frame k."""
    check_frame(film, k)
    frames = film.frames
    if len(frames) == 1:
        raise Last()
    lean_of_k, stream_of_k = frames[k]
    changed = numbers_led_on(frames, k, stream_of_k)
    kept = []
    for number, (lean, stream) in enumerate(frames):
        if number in changed:
            kept.append((lean_of_k, coded_numbers(changed[number], film.setting)))
        elif number != k:
            kept.append((lean - 1 if lean is not None and lean > k else lean, stream))
    return Film(film.setting, kept)


def numbers_led_on(frames, k, stream_of_k):
    """A dict from each frame that leans on k to its numbers and k's, added."""
    leaning = {number: stream for number, (lean, stream) in enumerate(frames) if lean == k}
    if len(leaning) == 0:
        return {}
    added = numbers_of(stream_of_k)
    found = {}
    for number, stream in leaning.items():
        found[number] = [one + other for one, other in zip(numbers_of(stream), added)]
    return found


def add_frame(film, picture, lean):
    """The film with one more frame at its end."""
    frames = film.frames
    check_lean(lean, len(frames))
    base = None if lean is None else frame_numbers(film, lean)
    numbers = flat_of(coefs_of(picture, film.setting))
    if len(frames) == MOST_FRAMES:
        raise TooMany(MOST_FRAMES)
    return Film(film.setting, frames + [(lean, coded_numbers(less(numbers, base), film.setting))])


def glue(one, other):
    """The film of the frames of both films."""
    check_alike(one.setting, other.setting)
    frames = one.frames
    many = len(frames)
    moved = [(lean if lean is None else lean + many, stream) for lean, stream in other.frames]
    return Film(one.setting, frames + moved)
