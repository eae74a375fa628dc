"""Guesses: point [16] of the document."""

from narrowingbits.bounds import samples, widest
from narrowingbits.pictures import Picture


def guess(box):
    """The picture whose samples lie in the middle of their ends."""
    channels = [[[(low + high) // 2 for low, high in row] for row in rows] for rows in samples(box)]
    return Picture(box.setting.rect, channels)


def off(box):
    """How far the guess is off at most."""
    # What grows with the difference of the ends is greatest where that is.
    return (widest(box) + 1) // 2
