"""Papers by the words of point [30], told from all members of small boxes, for tests."""

from narrowingbits.cutting import cut
from narrowingbits.orders import ORDERS
from narrowingbits.pictures import Picture
from narrowingbits.reading import box_of
from narrowingbits.settings import Setting
from narrowingbits.streams import code

from picture_reference import cells_of, coded_picture, members_of, spoilt, told

FORMS = (((0, 2, 0, 1), 0, 1, 0, "X"), ((-1, 1, 0, 2), 0, 1, 1, "YX"), ((3, 4, -1, 1), 1, 0, 1, "Y"),
         ((0, 2, 0, 1), 2, 1, 0, "X"), ((-1, 2, -1, 0), 0, 2, 0, "XX"))
MOST_MEMBERS = 70


def small_streams():
    """Streams of few coefs, right and spoilt ones."""
    for number, form in enumerate(FORMS):
        setting = Setting(*form, 2, ((6,), (2, 4), (3, 1, 2))[number % 3], ORDERS[number * 5])
        stream = code(coded_picture(setting, number + 3), setting)
        yield stream
        yield spoilt(stream, number)


def bit_count(stream):
    return sum(len(piece) for piece in stream)


def small_boxes():
    """(stream, n, the members of the box of its first n bits), where they are not too many."""
    for stream in small_streams():
        for n in range(bit_count(stream), -1, -1):
            box = box_of(cut(stream, n))
            if box.members() <= MOST_MEMBERS:
                yield stream, n, members_of(box)


def sample_of(picture, c, p):
    return picture.channels[c][p[1] - picture.rect[2]][p[0] - picture.rect[0]]


def difference_of(picture, c, p, q):
    return sample_of(picture, c, p) - sample_of(picture, c, q)


def spans_of(members):
    """A dict from (c, p) to the least and the greatest sample of all members, its keys by (c, y, x)."""
    found = {}
    for c in range(len(members[0].channels)):
        for p in cells_of(members[0].rect):
            numbers = [sample_of(picture, c, p) for picture in members]
            found[c, p] = (min(numbers), max(numbers))
    return found


def off_of(members):
    return max((high - low + 1) // 2 for low, high in spans_of(members).values())


def is_among(picture, members):
    return told(picture) in [told(one) for one in members]


def judged_by_words(paper, members):
    """Whether the claim is right, told from the members of the box."""
    word = paper[0]
    if word == "in":
        return is_among(paper[2], members)
    if word == "end":
        c, p, greatest, picture = paper[2:]
        numbers = [sample_of(one, c, p) for one in members]
        return is_among(picture, members) and sample_of(picture, c, p) == (max(numbers) if greatest else min(numbers))
    if word == "gap":
        c, p, q, greatest, picture = paper[2:]
        numbers = [difference_of(one, c, p, q) for one in members]
        return (is_among(picture, members)
                and difference_of(picture, c, p, q) == (max(numbers) if greatest else min(numbers)))
    if word == "unsure":
        c, p, q, one, other = paper[2:]
        return (is_among(one, members) and is_among(other, members) and difference_of(one, c, p, q) > 0
                and difference_of(other, c, p, q) < 0)
    if word == "full":
        one, other = paper[2:]
        return is_among(one, members) and is_among(other, members) and told(one) != told(other)
    c, p, picture, member = paper[2:]
    return is_among(member, members) and abs(sample_of(picture, c, p) - sample_of(member, c, p)) >= off_of(members)


def changed_cell(picture, c, p, by):
    """The picture with one sample changed."""
    channels = picture.channels
    channels[c][p[1] - picture.rect[2]][p[0] - picture.rect[0]] += by
    return Picture(picture.rect, channels)


def paper_told(paper):
    """What a paper tells."""
    return None if paper is None else tuple(told(thing) if isinstance(thing, Picture) else thing for thing in paper)
