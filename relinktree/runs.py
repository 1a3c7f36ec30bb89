"""Runs: deliveries until a network is at rest."""

from relinktree.errors import InvalidChoice, NotAtRest, TooMany
from relinktree.integers import is_integer_from
from relinktree.trees import Tree


def settle(network, *, choices=(), most=2000):
    """Delivers items until the network is at rest; returns how many."""
    if not are_choices(choices):
        raise InvalidChoice(choices)
    if not is_integer_from(most, 0):
        raise InvalidChoice(most)
    count = 0
    while not network.is_at_rest():
        if count == most:
            raise TooMany(most)
        source, goal = chosen_channel(network.busy(), choices, count)
        network.deliver(source, goal)
        count += 1
    return count


def are_choices(value):
    """Whether the value, of any kind, is a list or tuple of integers from 0 on."""
    return isinstance(value, (list, tuple)) and all([is_integer_from(number, 0) for number in value])


def chosen_channel(channels, choices, step):
    """The channel that the number for this step chooses; the first one when the numbers are used up."""
    if step >= len(choices):
        return channels[0]
    return channels[choices[step] % len(channels)]


def tree_at_rest(network):
    """The tree of the present hosts and their links."""
    channels = network.busy()
    if channels:
        raise NotAtRest(channels)
    hosts = network.hosts()
    # Each end of a link has it, so the ascending half of the pairs is all of them.
    links = [(host, other) for host in hosts for other in network.member(host).links() if host < other]
    return Tree(hosts, links)
