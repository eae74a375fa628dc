"""Nodes and their ends: point [5] of the document."""

from narrowingbits.bits import fixed
from narrowingbits.errors import Outside

ROOT = (0, 65536, 16)
LEAST_WIDTH = 65536


def borders(width, counts):
    """Where within a width the letters' parts begin, and behind them where the last one ends."""
    total = sum(counts)
    ahead = 0
    found = [0]
    for count in counts:
        ahead = ahead + count
        found.append(width * ahead // total)
    return found


def doublings_of(width):
    """How often a width must be doubled to be that of a node."""
    times = 0
    while width << times < LEAST_WIDTH:
        times += 1
    return times


def next_node(node, counts, j):
    """The child of the node for the letter j."""
    if not 0 <= j < len(counts):
        raise Outside()
    low, width, depth = node
    edges = borders(width, counts)
    narrowed = edges[j + 1] - edges[j]
    times = doublings_of(narrowed)
    return ((low + edges[j]) << times, narrowed << times, depth + times)


def end_of(node):
    """The fewest bits, and the least of these, whose interval lies within the node's."""
    low, width, depth = node
    # A node is at least 2 ** 16 and less than 2 ** 17 wide: more than 2 ** 16 never fits, 2 ** 16
    # may fit, and the first multiple of 2 ** 15 in it always has room for 2 ** 15 behind it.
    v = -(-low // 65536)
    if (v + 1) * 65536 <= low + width:
        return fixed(v, depth - 16)
    return fixed(-(-low // 32768), depth - 15)


class Ranger:
    """Goes from the root from node to node."""

    def __init__(self):
        self._node = ROOT

    def take(self, counts, j):
        """Go to the child of the letter j."""
        self._node = next_node(self._node, counts, j)

    @property
    def doublings(self):
        """The number of doublings since the root."""
        return self._node[2] - ROOT[2]

    def end(self):
        """The end of the node where it stands."""
        return end_of(self._node)
