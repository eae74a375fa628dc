"""Counts as bits: point [2] of the document."""

from narrowingbits.errors import BadBits, Great, Outside

MOST_ZEROS = 40
GREATEST_COUNT = 2 ** 41 - 2


def is_number(thing):
    """Whether the thing is a number: True and False are none."""
    return isinstance(thing, int) and not isinstance(thing, bool)


def check_bits(bits):
    """Raise BadBits if a thing among the bits is no bit."""
    for bit in bits:
        if not is_number(bit) or not 0 <= bit <= 1:
            raise BadBits()


def number_of(bits):
    """The number whose binary digits the bits are, the highest first."""
    number = 0
    for bit in bits:
        number = 2 * number + bit
    return number


def fixed(n, w):
    """The w binary digits of n, the highest first."""
    if n < 0 or w < 0 or n.bit_length() > w:
        raise Outside()
    # Many digits are told fast as a text alone: a shift for each one takes time as their square.
    # The 1 ahead of them keeps the leading zeros.
    text = f"{(1 << w) + n:b}"
    return [int(digit) for digit in text[1:]]


def count_bits(n):
    """The code of a count."""
    if not 0 <= n <= GREATEST_COUNT:
        raise Great()
    m = n + 1
    length = m.bit_length()
    return [0] * (length - 1) + fixed(m, length)


def signed_bits(n):
    """The signed code of a number."""
    # A number that is too great for it makes a count that is too great, on both sides of 0.
    return count_bits(2 * n if n >= 0 else -2 * n - 1)


def count_at(bits, at):
    """Read a count as read_count does, of bits and a place that were checked already."""
    one = at
    while one < len(bits) and bits[one] == 0:
        one += 1
        if one - at > MOST_ZEROS:
            return ("long",)
    zeros = one - at
    stop = one + 1 + zeros
    if stop > len(bits):
        return ("short",)
    return ("read", number_of(bits[one:stop]) - 1, stop)


def signed_at(bits, at):
    """Read a signed number as read_signed does, of bits and a place that were checked already."""
    told = count_at(bits, at)
    if told[0] != "read":
        return told
    word, count, stop = told
    if count % 2 == 0:
        return (word, count // 2, stop)
    return (word, -(count + 1) // 2, stop)


def check_place(bits, at):
    """Raise BadBits for the bits, then Outside unless the place is one of the list or its end."""
    check_bits(bits)
    if not 0 <= at <= len(bits):
        raise Outside()


def read_count(bits, at):
    """Read the code of a count at a place: ("short",), ("long",) or ("read", n, next place)."""
    check_place(bits, at)
    return count_at(bits, at)


def read_signed(bits, at):
    """Read a signed code at a place: ("short",), ("long",) or ("read", n, next place)."""
    check_place(bits, at)
    return signed_at(bits, at)
