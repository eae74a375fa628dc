"""The studio: point [32] of the document."""

from narrowingbits.cutting import cut, keep_layers
from narrowingbits.errors import BadDeed, NoStream, NothingToUndo, TooMany
from narrowingbits.moving import shift, shrink, take
from narrowingbits.turning import lighten, turned

MOST_NAMES = 6
MOST_ROWS = 60
LONGEST_NAME = 8
NAME_LETTERS = "abcdefghijklmnopqrstuvwxyz"
# How many things each row has behind its word.
SIZES = {"put": 2, "copy": 2, "drop": 1, "cut": 2, "layers": 2, "shrink": 2, "take": 5, "shift": 3,
         "turn": 2, "lighten": 2}


class Studio:
    """Keeps streams under names; rows of deeds change them, and can be undone and redone.

    What it holds is a triple: the streams by their names, the like of it ahead of each row that can be
    undone, the last row last, and behind each row that can be redone, the first to be redone last. No
    part of it is ever changed, only the whole exchanged, so that a trial needs to keep but the triple.
    """

    def __init__(self):
        self.held = ({}, [], [])

    def do(self, row):
        """Do the row."""
        check_row(row)
        streams, undoable, _ = self.held
        changed = streams_behind(streams, row)
        if len(changed) > MOST_NAMES:
            raise TooMany(MOST_NAMES)
        self.held = (changed, (undoable + [streams])[-MOST_ROWS:], [])

    def undo(self):
        """Undo the last row."""
        streams, undoable, redoable = self.held
        if len(undoable) == 0:
            raise NothingToUndo()
        self.held = (undoable[-1], undoable[:-1], redoable + [streams])

    def redo(self):
        """Do the row again that was undone last."""
        streams, undoable, redoable = self.held
        if len(redoable) == 0:
            raise NothingToUndo()
        self.held = (redoable[-1], undoable + [streams], redoable[:-1])

    def stream(self, name):
        """The stream of that name."""
        streams, _, _ = self.held
        check_name(streams, name)
        return streams[name]

    def names(self):
        """The names, ascending."""
        streams, _, _ = self.held
        return sorted(list(streams))

    def trial(self):
        """A context manager at whose end the studio is again as it was when it was entered."""
        return Trial(self)

    def tried(self, rows):
        """A dict from the names to their streams as they are behind the rows, which are but tried."""
        with Trial(self):
            for row in rows:
                self.do(row)
            found = {name: self.stream(name) for name in self.names()}
        return found


class Trial:
    """Gives back to a studio at its end what it held when the trial was entered."""

    def __init__(self, studio):
        self._studio = studio
        self._before = None

    def __enter__(self):
        self._before = self._studio.held

    def __exit__(self, kind, value, trace):
        studio = self._studio
        studio.held = self._before


def check_row(row):
    """Raise BadDeed for what is no row."""
    if len(row) == 0 or row[0] not in SIZES or len(row) != SIZES[row[0]] + 1:
        raise BadDeed()
    for name in row[1:3] if row[0] == "copy" else row[1:2]:
        if not is_name(name):
            raise BadDeed()


def is_name(thing):
    """Whether the thing is a name for a stream."""
    if not isinstance(thing, str) or not 1 <= len(thing) <= LONGEST_NAME:
        return False
    for letter in thing:
        if letter not in NAME_LETTERS:
            return False
    return True


def check_name(streams, name):
    """Raise NoStream unless there is a stream of the name."""
    if name not in streams:
        raise NoStream(name)


def streams_behind(streams, row):
    """The streams by their names as they are behind the row."""
    word, name, *things = row
    changed = {key: streams[key] for key in streams}
    if word == "put":
        changed[name] = things[0]
        return changed
    check_name(streams, name)
    if word == "copy":
        changed[things[0]] = streams[name]
    elif word == "drop":
        del changed[name]
    else:
        changed[name] = stream_behind(word, streams[name], things)
    return changed


def stream_behind(word, stream, things):
    """What the deed of that word makes of the stream."""
    deeds = {"cut": cut, "layers": keep_layers, "shrink": shrink, "take": take, "shift": shift,
             "turn": turned, "lighten": lighten}
    deed = deeds[word]
    return deed(stream, *things)
