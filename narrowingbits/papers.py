"""Papers: point [30] of the document."""

from narrowingbits.bounds import check_cell, check_channel, samples
from narrowingbits.boxes import member, nearest_number
from narrowingbits.coefs import fits, flat_of, places_of
from narrowingbits.corners import corner, gap_corner
from narrowingbits.cutting import cut
from narrowingbits.errors import BadDeed, Unlike
from narrowingbits.gaps import check_not_coloured, gap
from narrowingbits.guesses import off
from narrowingbits.reading import box_of

# How many things each paper has ahead of its pictures, behind its word and its number of bits.
LEADING = {"in": 0, "end": 3, "gap": 4, "unsure": 3, "full": 0, "off": 2}
# How many of these are a channel and cells.
PLACES = {"in": 0, "end": 2, "gap": 3, "unsure": 3, "full": 0, "off": 2}
# How many things a paper is made of.
GIVEN = {"in": 0, "end": 3, "gap": 4, "unsure": 3, "full": 0, "off": 1}
UNCOLOURED = ("gap", "unsure")


def make(stream, word, n, things=()):
    """The paper that tells the claim of the word about the first n bits; None if the claim is not right."""
    if word not in GIVEN or len(things) != GIVEN[word]:
        raise BadDeed()
    places = [] if word == "off" else things[:PLACES[word]]
    box = box_asked(stream, word, n, places)
    if word == "off" and not fits(things[0], stream.setting):
        raise Unlike()
    maker = MAKERS[word]
    found = maker(box, list(things))
    return None if found is None else (word, n, *found)


def box_asked(stream, word, n, places):
    """The box of the first n bits of the payload, about which a paper names a channel and cells."""
    setting = stream.setting
    if word in UNCOLOURED:
        check_not_coloured(setting)
    shorter = cut(stream, n)
    if len(places) > 0:
        check_channel(setting, places[0])
        for x, y in places[1:]:
            check_cell(setting, x, y)
    return box_of(shorter)


# Each of these returns what stands in the paper behind its number of bits, None if the claim is not right.

def _in_things(box, things):
    return things + [box.nearest()]


def _end_things(box, things):
    c, (x, y), greatest = things
    return things + [corner(box, c, x, y, greatest)]


def _gap_things(box, things):
    c, p, q, greatest = things
    return things + [gap_corner(box, c, p, q, greatest)]


def _unsure_things(box, things):
    c, p, q = things
    least, most = gap(box, c, p, q)
    if least >= 0 or most <= 0:
        return None
    return things + [gap_corner(box, c, p, q, True), gap_corner(box, c, p, q, False)]


def _full_things(box, things):
    for place, (low, high) in zip(places_of(box.setting), flat_of(box.stretches())):
        if low < high:
            number = high if nearest_number((low, high)) == low else low
            return things + [box.nearest(), member(box, {place: number})]
    return None


def _off_things(box, things):
    picture = things[0]
    channels = picture.channels
    x0, _, y0, _ = box.setting.rect
    least = off(box)
    for c, rows in enumerate(samples(box)):
        for y, row in enumerate(rows, start=y0):
            for x, (low, high) in enumerate(row, start=x0):
                number = channels[c][y - y0][x - x0]
                is_high = abs(high - number) >= least
                if is_high or abs(low - number) >= least:
                    return [c, (x, y), picture, corner(box, c, x, y, is_high)]
    return None


MAKERS = {"in": _in_things, "end": _end_things, "gap": _gap_things, "unsure": _unsure_things,
          "full": _full_things, "off": _off_things}
