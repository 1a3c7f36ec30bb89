"""Integers from 0 on, as bits, cuts and numbers of deliveries, and how they are written."""

from relinktree.names import DIGITS


def is_integer_from(value, least):
    """Whether the value, of any kind, is an integer that is not less than `least`."""
    # True and False are no integers here, although Python counts them as such.
    return isinstance(value, int) and not isinstance(value, bool) and value >= least


def is_index(value, size):
    """Whether the value, of any kind, is an integer from 0 to size - 1."""
    return is_integer_from(value, 0) and value < size


def parse_index(text, size):
    """The integer from 0 to size - 1 that is written as the text, or None if there is none."""
    # Compared with what would be written, so that no sign and no leading zero gets through.
    written = [str(index) for index in range(size)]
    return written.index(text) if text in written else None


def parse_number(text):
    """The integer from 0 on that is written as the text, or None if there is none."""
    if text == "" or not all([character in DIGITS for character in text]):
        return None
    return None if text[0] == "0" and text != "0" else int(text)
