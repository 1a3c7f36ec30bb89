"""Pasts: which messages, equal ones told apart, a writer had logged before it wrote, and which ones a log has."""

from relinktree.errors import InvalidEvent
from relinktree.names import is_word
from relinktree.networks import Network, has_event_form


def message_pasts(tree, events):
    """One tuple (writer, word, past) per "write", in order."""
    return replayed(tree, events)[1]


def log_indexes(tree, events, host):
    """The log of the host at the end, as indexes in the result of message_pasts."""
    return logged_numbers(replayed(tree, events)[0], host)


def replayed(tree, events):
    """The network after the events, with the number of each "write" as its word, and the result of message_pasts."""
    if not isinstance(events, (list, tuple)):
        raise InvalidEvent(events)
    network = Network(tree)
    rows = []
    for event in events:
        if is_write_of_word(event):
            writer, word = event[1:]
            # Hosts never look at words, so numbers take the same ways as the words, and tell equal messages apart.
            network.write(writer, str(len(rows)))
            rows.append((writer, word, tuple(sorted(logged_numbers(network, writer)[:-1]))))
        else:
            network.do(event)
    return (network, rows)


def is_write_of_word(event):
    """Whether the value, of any kind, is a "write" event with a word."""
    return has_event_form(event) and event[0] == "write" and is_word(event[2])


def logged_numbers(network, host):
    """The log of the host as the list of the numbers of its messages."""
    return [int(word) for writer, word in network.member(host).log()]
