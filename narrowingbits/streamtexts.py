"""Streams as texts and back: point [31] of the document."""

from narrowingbits.errors import BadText, NarrowError
from narrowingbits.heads import read_stream, stream_bits
from narrowingbits.hexes import bits_of, hex_of
from narrowingbits.moving import fields_of
from narrowingbits.texts import SETTING_ROWS, setting_of, text_of_setting, word_behind


def text_of_stream(stream):
    """The text of the stream."""
    return "\n".join([text_of_setting(stream.setting), f"bits {hex_of(stream_bits(stream))}"])


def stream_of(text):
    """The stream whose text this is."""
    rows = text.split("\n")
    setting = setting_of("\n".join(rows[:SETTING_ROWS]))
    stream = stream_behind(word_behind(rows, SETTING_ROWS, "bits"))
    if fields_of(stream.setting) != fields_of(setting):
        raise BadText(SETTING_ROWS)
    if len(rows) > SETTING_ROWS + 1:
        raise BadText(SETTING_ROWS + 1)
    return stream


def stream_behind(digits):
    """The stream whose bits stand as hex text in the row behind those of its setting."""
    try:
        return read_stream(bits_of(digits))
    except NarrowError:
        raise BadText(SETTING_ROWS) from None
