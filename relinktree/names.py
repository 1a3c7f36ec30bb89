"""Host names and words."""

LETTERS = "abcdefghijklmnopqrstuvwxyz"
DIGITS = "0123456789"
LONGEST_NAME = 8
LONGEST_WORD = 12


def is_host_name(value):
    """Whether the value, of any kind, is a host name."""
    return is_text_of(value, LETTERS, LONGEST_NAME)


def is_word(value):
    """Whether the value, of any kind, is a word."""
    return is_text_of(value, LETTERS + DIGITS, LONGEST_WORD)


def is_text_of(value, characters, longest):
    """Whether the value is a string of 1 to `longest` of the characters."""
    if not isinstance(value, str) or not 1 <= len(value) <= longest:
        return False
    return all([character in characters for character in value])
