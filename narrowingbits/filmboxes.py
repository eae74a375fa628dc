"""Boxes of the frames of a film: point [25] of the document."""

from narrowingbits.bounds import summed
from narrowingbits.boxes import Box
from narrowingbits.coefs import flat_of, rows_of
from narrowingbits.films import chain_of
from narrowingbits.reading import box_of


def frame_box(film, n):
    """The box of the frame n."""
    numbers = chain_of(film, n)
    frames = film.frames
    return summed_box(film.setting, [flat_of(box_of(frames[number][1]).stretches()) for number in numbers])


def chain(film, n):
    """The numbers of the chain of the frame n, the key last."""
    return chain_of(film, n)


def frame_boxes(film):
    """The boxes of all frames; no stream is read twice for them."""
    boxes = []
    for lean, stream in film.frames:
        told = [flat_of(box_of(stream).stretches())]
        if lean is not None:
            told.append(flat_of(boxes[lean].stretches()))
        boxes.append(summed_box(film.setting, told))
    return boxes


def summed_box(setting, told):
    """The box of sums of stretches; each list told has them in the order of their places."""
    return Box(setting, rows_of(setting, [summed(list(stretches)) for stretches in zip(*told)]))
