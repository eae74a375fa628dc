"""Bits as hexadecimal text: point [3] of the document."""

from narrowingbits.bits import check_bits, fixed, number_of
from narrowingbits.errors import BadText

DIGITS = "0123456789abcdef"
FILLINGS = ("0", "1", "2", "3")


def hex_of(bits):
    """The hex text of the bits."""
    check_bits(bits)
    filling = -len(bits) % 4
    filled = list(bits) + [0] * filling
    digits = [DIGITS[number_of(filled[at:at + 4])] for at in range(0, len(filled), 4)]
    return "".join(digits) + f".{filling}"


def bits_of(text):
    """The bits whose hex text this is."""
    digits, _, rest = text.partition(".")
    if rest not in FILLINGS:
        raise BadText(0)
    filled = _bits_of_digits(digits)
    kept = len(filled) - int(rest)
    if kept < 0 or 1 in filled[kept:]:
        raise BadText(0)
    return filled[:kept]


def _bits_of_digits(digits):
    filled = []
    for digit in digits:
        if digit not in DIGITS:
            raise BadText(0)
        filled.extend(fixed(DIGITS.index(digit), 4))
    return filled
