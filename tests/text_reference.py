"""Texts by the words of point [31], and rows written in odd ways, for tests."""

# No number is written so.
ODD_NUMBERS = ("", "-", "+1", "01", "00", "-0", "-01", "--1", "1-", "1.0", "1_0", "0x1", "1e3", "one", "1,", "1\t",
               "\u0661", "\u00b2", "1\u00a0", "9999999999999", "-1000000000000", "0000000000001", "1\r", "\x0b1")
RIGHT_NUMBERS = (0, 1, -1, 10, 999999999999, -999999999999, 100000000000)


def rows_of_setting(setting):
    return ["rect " + " ".join(str(number) for number in setting.rect), f"mode {setting.mode}",
            f"tiles {setting.tx} {setting.ty}", "word " + (setting.word or "-"), f"planes {setting.planes}",
            "layers " + " ".join(str(layer) for layer in setting.layers), "order " + setting.order]


def rows_of_picture(picture):
    rows = ["rect " + " ".join(str(number) for number in picture.rect), f"channels {len(picture.channels)}"]
    return rows + [" ".join(str(number) for number in row) for channel in picture.channels for row in channel]


def odd_ways(row):
    """The row written in odd ways: with other blanks, other words, more and fewer of them."""
    words = row.split(" ")
    found = ["", " ", " " + row, row + " ", row.replace(" ", "  ", 1), row.replace(" ", "\t", 1), row + "\r",
             row.upper() if row.upper() != row else row.lower(), words[0], words[0] + " ", " ".join(words[1:]),
             row + " x", row + "  1", "x " + row, row.replace(" ", ":", 1), row.replace(" ", "\u00a0", 1),
             "x" + row, row + "."]
    return [one for one in found if one != row]


def with_row(rows, at, row):
    """The text of the rows with another one in the place of one of them."""
    return "\n".join(rows[:at] + [row] + rows[at + 1:])


def with_word(row, at, word):
    """The row with another word in the place of one of them."""
    words = row.split(" ")
    return " ".join(words[:at] + [word] + words[at + 1:])
