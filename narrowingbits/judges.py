"""Judging papers: point [30] of the document."""

from narrowingbits.bounds import sample
from narrowingbits.coefs import fits
from narrowingbits.errors import BadDeed
from narrowingbits.gaps import gap
from narrowingbits.guesses import off
from narrowingbits.papers import LEADING, PLACES, box_asked

# How many pictures each paper has at its end.
PICTURES = {"in": 1, "end": 1, "gap": 1, "unsure": 2, "full": 2, "off": 2}


def judge(stream, paper):
    """Whether what the paper claims is right."""
    if len(paper) == 0 or paper[0] not in PICTURES:
        raise BadDeed()
    word = paper[0]
    if len(paper) != 2 + LEADING[word] + PICTURES[word]:
        raise BadDeed()
    things = list(paper[2:2 + LEADING[word]])
    pictures = list(paper[2 + LEADING[word]:])
    box = box_asked(stream, word, paper[1], things[:PLACES[word]])
    for picture in pictures:
        if not fits(picture, stream.setting):
            return False
    # The first picture of an "off" paper may be any one.
    for picture in pictures[1:] if word == "off" else pictures:
        if not box.has(picture):
            return False
    question = QUESTIONS[word]
    return question(box, things, pictures)


def sample_at(box, picture, c, p):
    """The sample of a picture that fits the box, at a cell of a channel."""
    x0, _, y0, _ = box.setting.rect
    x, y = p
    return picture.channels[c][y - y0][x - x0]


def difference_at(box, picture, things):
    """The difference of the samples of a picture; the things begin with a channel and two cells."""
    c, p, q = things[:3]
    return sample_at(box, picture, c, p) - sample_at(box, picture, c, q)


# Each of these tells whether a paper is right of whose pictures it is known that they are members.

def _is_in(_box, _things, _pictures):
    return True


def _is_end(box, things, pictures):
    c, (x, y), greatest = things
    least, most = sample(box, c, x, y)
    return sample_at(box, pictures[0], c, (x, y)) == (most if greatest else least)


def _is_gap(box, things, pictures):
    c, p, q, greatest = things
    least, most = gap(box, c, p, q)
    return difference_at(box, pictures[0], things) == (most if greatest else least)


def _is_unsure(box, things, pictures):
    one, other = pictures
    return difference_at(box, one, things) > 0 > difference_at(box, other, things)


def _is_full(_box, _things, pictures):
    one, other = pictures
    return one.channels != other.channels


def _is_off(box, things, pictures):
    c, p = things
    picture, other = pictures
    return abs(sample_at(box, picture, c, p) - sample_at(box, other, c, p)) >= off(box)


QUESTIONS = {"in": _is_in, "end": _is_end, "gap": _is_gap, "unsure": _is_unsure, "full": _is_full,
             "off": _is_off}
