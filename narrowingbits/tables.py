"""Tables of letters: point [4] of the document."""

from narrowingbits.errors import Outside

MOST_TOTAL = 64


class Table:
    """A count for each of two or three letters."""

    def __init__(self, m):
        if m not in (2, 3):
            raise Outside()
        self._counts = [1] * m

    @property
    def counts(self):
        """The counts of the letters."""
        return list(self._counts)

    @property
    def total(self):
        """The sum of the counts."""
        return sum(self._counts)

    def learn(self, j):
        """Count the letter j."""
        if not 0 <= j < len(self._counts):
            raise Outside()
        self._counts[j] += 2
        if sum(self._counts) > MOST_TOTAL:
            self._counts = [(count + 1) // 2 for count in self._counts]
