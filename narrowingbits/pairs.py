"""Pairs and the way back: the beginning of point [7] of the document."""


def pair(a, b):
    """The pair (s, d) of a and b."""
    d = a - b
    return (b + d // 2, d)


def back(s, d):
    """The numbers (a, b) whose pair (s, d) is."""
    b = s - d // 2
    return (b + d, b)
