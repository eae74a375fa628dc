"""Checks: the beginning of point [28] of the document."""

from narrowingbits.bits import check_bits, fixed

CHECK_BITS = 8
# What a 1 that leaves the eight bits brings back into them.
FEEDBACK = 7


def check(bits):
    """The 8 bits of the check of the bits."""
    check_bits(bits)
    return check_of(bits)


def check_of(bits):
    """As check, of bits that were looked at already."""
    held = 0
    for bit in bits:
        top = (held >> (CHECK_BITS - 1)) ^ bit
        held = (2 * held) & ((1 << CHECK_BITS) - 1)
        if top == 1:
            held = held ^ FEEDBACK
    return fixed(held, CHECK_BITS)
