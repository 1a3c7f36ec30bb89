"""What the tests of networks need: small networks, their whole visible state, and events in chosen orders."""

import random

from relinktree.errors import Busy, NotALeaf, NotLinked, UnknownHost
from relinktree.networks import Network
from relinktree.trees import Tree
from tests.support import Case, NO_NAMES, NO_RELINKS

# Values of which none is a list or a tuple.
NO_LISTS = [value for value in NO_NAMES if not isinstance(value, (list, tuple))]


def line(names):
    """The tree in which each host is linked to the next one."""
    return Tree(list(names), list(zip(names, names[1:])))


def tree_of(text):
    """The tree with these links, as in "ab bc"."""
    links = [tuple(pair) for pair in text.split()]
    return Tree(sorted({name for link in links for name in link}), links)


def network_on(names):
    return Network(line(names))


def host_state(host):
    return (
        host.name(), list(host.links()), list(host.log()), host.relink(), host.phase(), host.waits_for(),
        list(host.queue()), list(host.answers()),
    )


def state(network):
    """All that can be asked of a network, except its events and its first tree."""
    # Copies, so that a list that the network would share does not change here too.
    flights = {pair: list(network.in_flight(*pair)) for pair in network.busy()}
    return ([host_state(network.member(name)) for name in network.hosts()], flights, len(network), network.is_at_rest())


def whole(network):
    return (state(network), list(network.events()), network.first_tree())


def deliver_all(network, *pairs):
    """Delivers over the channels, as in "ab", in this order; returns the first parts of the items."""
    return [network.deliver(*pair)[0] for pair in pairs]


class NetworkCase(Case):
    def assert_refused(self, network, error, fields, call, *args, **kwargs):
        """The call raises this error and changes nothing."""
        twin = network.copied()
        before = whole(network)
        self.assert_error(error, fields, call, *args, **kwargs)
        self.assertEqual(whole(network), before)
        self.assertTrue(network == twin)


def any_tree(rng, count):
    names = list("abcdefghijkl"[:count])
    rng.shuffle(names)
    return Tree(names, [(name, names[rng.randrange(at)]) for at, name in enumerate(names) if at > 0])


def any_path(rng, network, is_along_links):
    """A path of different hosts, along the links or not."""
    path = [rng.choice(network.hosts())]
    for _ in range(rng.randint(2, 5)):
        others = network.member(path[-1]).links() if is_along_links else network.hosts()
        others = [other for other in others if other in network.hosts() and other not in path]
        path += [rng.choice(others)] if others else []
    return tuple(path)


def any_event(rng, network, number, kinds):
    """An event of one of the kinds; the words are all different, and most asks fit when nothing is in flight."""
    kind = rng.choice(kinds)
    name = rng.choice(network.hosts())
    if kind == "ask":
        path = any_path(rng, network, rng.random() < 0.85)
        if len(path) > 2:
            return ("ask", path, rng.randrange(len(path) - 1))
    if kind == "add" and len(network) < 12:
        return ("add", "n" + "abcdefghij"[number // 10 % 10] + "abcdefghij"[number % 10], name)
    if kind == "remove":
        return ("remove", name)
    if kind == "deliver" and network.busy():
        return ("deliver", *rng.choice(network.busy()))
    return ("write", name, f"w{number}")


def try_event(network, event):
    """Does the event unless the network refuses it; returns whether it was done."""
    try:
        network.do(event)
    except (Busy, NotLinked, NotALeaf, UnknownHost):
        return False
    return True


def any_run(seed, kinds, after_each, count=60, to_rest=True):
    """A network after events that the seed chooses, then deliveries until rest; calls after_each after every event."""
    rng = random.Random(seed)
    network = Network(any_tree(rng, rng.randint(2, 7)))
    number = 0
    while number < count or to_rest and network.busy():
        event = any_event(rng, network, number, kinds if number < count else ["deliver"])
        if try_event(network, event):
            after_each(network, event)
        number += 1
    return network


def unequal_relinks():
    """Values of which none is a relink, as (path, cut)."""
    return [value for value in NO_RELINKS if isinstance(value, tuple) and len(value) == 2]
