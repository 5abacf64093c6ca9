"""Texts of fractions, rows, machines and helms, written and read."""

from allhelms.ratios import is_fraction
from allhelms.rows import is_row

NOUGHT_ROW = "-"


def fraction_text(fraction):
    """The text of a fraction."""
    return f"{fraction[0]}/{fraction[1]}"


def row_text(row):
    """The text of a row."""
    return " ".join([fraction_text(number) for number in row]) if row != () else NOUGHT_ROW


def pair_text(pair):
    """The text of a machine or a helm."""
    return "; ".join([row_text(row) for row in pair])


def read_whole(text):
    """The whole number of a text, None if it is not the text that `str` writes."""
    digits = text.removeprefix("-")
    if not digits.isascii() or not digits.isdigit():
        return None
    number = int(text)
    return number if str(number) == text else None


def read_fraction(text):
    """The fraction of a text, None if it is the text of none."""
    fraction = tuple([read_whole(part) for part in text.split("/")])
    return fraction if is_fraction(fraction) else None


def read_row(text):
    """The row of a text, None if it is the text of none."""
    row = tuple([read_fraction(part) for part in text.split(" ")]) if text != NOUGHT_ROW else ()
    return row if is_row(row) else None


def read_pair(text):
    """The rows of a text, each None if its own text is that of none."""
    return tuple([read_row(part) for part in text.split("; ")])
