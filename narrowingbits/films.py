"""Films: point [25] of the document."""

from narrowingbits.coefs import coefs_of, flat_of, picture_of, rows_of
from narrowingbits.errors import BadField, Cut, NoFrame, TooMany, Unlike
from narrowingbits.moving import fields_of
from narrowingbits.reading import box_of
from narrowingbits.streams import code, is_whole

MOST_FRAMES = 8


class Film:
    """A setting and frames (lean, stream) of it; a frame tells how it differs from the one it leans on."""

    def __init__(self, setting, frames):
        check_frame_count(frames)
        check_leans([lean for lean, _ in frames])
        for _, stream in frames:
            check_alike(stream.setting, setting)
        self.setting = setting
        self._frames = [(lean, stream) for lean, stream in frames]

    @property
    def frames(self):
        """The frames, each as a pair (lean, stream)."""
        return list(self._frames)


def check_frame_count(frames):
    """Raise what is wrong with the number of frames."""
    if len(frames) == 0:
        raise BadField("frames")
    if len(frames) > MOST_FRAMES:
        raise TooMany(MOST_FRAMES)


def check_leans(leans):
    """Raise BadField for the first lean that is no earlier frame."""
    for number, lean in enumerate(leans):
        check_lean(lean, number)


def check_lean(lean, number):
    """Raise BadField unless the lean is None or one of so many frames."""
    if lean is not None and not 0 <= lean < number:
        raise BadField("lean")


def check_alike(setting, other):
    """Raise Unlike unless the settings have the same fields."""
    if fields_of(setting) != fields_of(other):
        raise Unlike()


def check_frame(film, n):
    """Raise NoFrame unless the film has the frame."""
    if not 0 <= n < len(film.frames):
        raise NoFrame(n)


def film(pictures, setting, leans):
    """The film of whole streams of the pictures."""
    check_frame_count(pictures)
    if len(leans) != len(pictures):
        raise Unlike()
    check_leans(leans)
    numbers = [flat_of(coefs_of(picture, setting)) for picture in pictures]
    frames = []
    for number, lean in enumerate(leans):
        base = None if lean is None else numbers[lean]
        frames.append((lean, coded_numbers(less(numbers[number], base), setting)))
    return Film(setting, frames)


def coefs_of_frame(film, n):
    """The coefs of the picture of the frame n."""
    return rows_of(film.setting, frame_numbers(film, n))


def frame_numbers(film, n):
    """The coefs of the picture of the frame n, in the order of their places."""
    numbers = [numbers_of(film.frames[number][1]) for number in chain_of(film, n)]
    return [sum(parts) for parts in zip(*numbers)]


def chain_of(film, n):
    """The numbers of the chain of the frame n, the key last."""
    check_frame(film, n)
    frames = film.frames
    numbers = [n]
    lean, _ = frames[n]
    while lean is not None:
        numbers.append(lean)
        lean, _ = frames[lean]
    return numbers


def numbers_of(stream):
    """The numbers that a stream tells, in the order of their places. Raises Cut unless it is whole."""
    if not is_whole(stream):
        raise Cut()
    return [low for low, _ in flat_of(box_of(stream).stretches())]


def less(numbers, base):
    """The numbers less those that they lean on, which are None for a key."""
    if base is None:
        return numbers
    return [number - other for number, other in zip(numbers, base)]


def coded_numbers(numbers, setting):
    """The whole stream of the numbers, which stand in the order of their places."""
    return code(picture_of(rows_of(setting, numbers), setting), setting)
