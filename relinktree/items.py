"""Items, which hosts send to each other, and their written forms."""

from relinktree.errors import InvalidItem, InvalidText
from relinktree.integers import is_index, parse_index
from relinktree.names import is_host_name, is_word
from relinktree.relinks import is_relink, relink_from, relink_text

MESSAGE = "message"
BYE = "bye"
CONTROL_KINDS = ("ask", "no", "yes", "go", "back")
BITS = 2


def is_item(value):
    """Whether the value, of any kind, is an item."""
    # Only strings are compared with the words: values of other kinds may claim to be equal to any.
    if not isinstance(value, tuple) or len(value) == 0 or not isinstance(value[0], str):
        return False
    parts = value[1:]
    if value[0] == MESSAGE:
        return are_message_parts(parts)
    if value[0] == BYE:
        return len(parts) == 0
    return is_control_kind(value[0]) and is_relink(parts)


def are_message_parts(parts):
    """Whether the parts are a writer, a word and a bit."""
    if len(parts) != 3:
        return False
    writer, word, bit = parts
    return is_host_name(writer) and is_word(word) and is_index(bit, BITS)


def is_control_kind(value):
    """Whether the value, of any kind, is the first part of a control item."""
    return isinstance(value, str) and value in CONTROL_KINDS


def check_item(value):
    """Raises InvalidItem for any value that is no item."""
    if not is_item(value):
        raise InvalidItem(value)


def item_text(item):
    """The written form of the item."""
    check_item(item)
    if not is_control_kind(item[0]):
        return " ".join([str(part) for part in item])
    return f"{item[0]} {relink_text(item[1:])}"


def parse_item(text):
    """The item whose written form is the text."""
    if not isinstance(text, str):
        raise InvalidText(text)
    item = item_from(text.split(" "))
    if not is_item(item):
        raise InvalidText(text)
    return item


def item_from(parts):
    """The item with these written parts; if they are those of no item, a tuple that is none."""
    if len(parts) == 4:
        kind, writer, word, bit = parts
        return (kind, writer, word, parse_index(bit, BITS))
    if len(parts) == 3:
        path, cut = relink_from(parts[1], parts[2])
        return (parts[0], path, cut)
    return tuple(parts)
