"""Integers from 0 on, as bits and cuts, and how they are written."""


def is_index(value, size):
    """Whether the value, of any kind, is an integer from 0 to size - 1."""
    # True and False are no integers here, although Python counts them as such.
    if not isinstance(value, int) or isinstance(value, bool):
        return False
    return 0 <= value < size


def parse_index(text, size):
    """The integer from 0 to size - 1 that is written as the text, or None if there is none."""
    # Compared with what would be written, so that no sign and no leading zero gets through.
    written = [str(index) for index in range(size)]
    return written.index(text) if text in written else None
