"""What several tests need: values of many kinds, small trees, hosts that exchange items, a check of raised errors."""

import itertools
import unittest

from relinktree.channels import Channels
from relinktree.hosts import Host
from relinktree.trees import Tree


def deep_list():
    """A list nested so deep that Python can neither compare nor show it."""
    value = []
    for _ in range(100000):
        value = [value]
    return value


def ring_list():
    """A list that contains itself."""
    value = []
    value.append(value)
    return value


class Impostor:
    """Equals everything and has the hash of the string "a"."""

    def __eq__(self, other):
        return True

    def __hash__(self):
        return hash("a")


# Values that are no strings, no lists and no tuples.
OTHER_KINDS = [
    None, True, False, 0, 1, 2, -1, 10 ** 29, b"", b"a", b"abc", {}, {"a": "b"}, {"a": ["b"]},
    set(), {"a"}, {"a", "b"}, frozenset(), frozenset(["a"]), range(3), range(0), object(), len, Impostor(), Impostor,
    Tree(["a"]), Tree(["a", "b"], [("a", "b")]), ValueError("a"), Ellipsis, {"a": 1}.keys(), iter(["a"]),
    Channels(), Host("a"),
]

# Strings that are no host names.
WRONG_NAMES = ["", " ", "A", "aB", "a1", "a b", "a\n", "\na", " a", "a-", "abcdefghi", "\u00e9", "a" * 1000, "`", "{"]

LISTS = [[], ["a"], ["a", "b"], ["a", "b", "c"], [["a"]], [None], [{}], deep_list(), ring_list()]
TUPLES = [(), ("a",), ("a", "b"), ("a", "b", "c"), (["a"],), (None,), ("a", ["b"]), ({}, "a"), (deep_list(),)]

# Values of which none is a host name.
NO_NAMES = OTHER_KINDS + WRONG_NAMES + LISTS + TUPLES

# Pairs that look like relinks but are none.
WRONG_PAIRS = [
    ((), 0), (("a",), 0), (("a", "b"), 0), (("a", "b"), -1), (["a", "b", "c"], 0), ("abc", 0), ({"a", "b", "c"}, 0),
    (("a", "b", "a"), 0), (("a", "b", "b"), 1), (("a", "a", "b"), 0), (("a", "b", "c", "a"), 1),
    (("a", "b", "c"), -1), (("a", "b", "c"), 2), (("a", "b", "c"), 3), (("a", "b", "c", "d"), 3),
    (("a", "b", "c"), 10 ** 29), (("a", "b", "c"), deep_list()), (("a", "b", "c"), Impostor()),
    (("a", "b", "c"), True), (("a", "b", "c"), False), (("a", "b", "c"), None), (("a", "b", "c"), "1"),
    (("a", "b", "c"), (1,)), (("a", "b", "c"), [0]), (("a", "b", "c"), b"1"), (("a", "b", "c"), {}),
    (("a", "b", "C"), 0), (("a", "", "c"), 0), (("a", "b", "c1"), 0), (("a", "b", "abcdefghi"), 0),
    (("a", "b", None), 0), (("a", "b", ["c"]), 0), ((["a"], "b", "c"), 0), (("a", {}, "c"), 0), (("a", 1, "c"), 0),
    (("a", b"b", "c"), 0), (("a", "b", Impostor()), 0), (("a", "b", deep_list()), 0), (deep_list(), 0),
    (None, None), (0, ("a", "b", "c")), (Impostor(), 0),
]

# Values of which none is a relink.
NO_RELINKS = NO_NAMES + WRONG_PAIRS + [
    (("a", "b", "c"),), (("a", "b", "c"), 1, 1), [("a", "b", "c"), 1], ("a", "b", "c", 1), ((("a", "b", "c"), 1),),
]

KINDS = ["ask", "no", "yes", "go", "back"]

# Items of every kind with their parts at their edges, and their written forms.
ITEM_TEXTS = {
    ("message", "a", "hi", 0): "message a hi 0",
    ("message", "a", "hi", 1): "message a hi 1",
    ("message", "zzzzzzzz", "0123456789az", 1): "message zzzzzzzz 0123456789az 1",
    ("message", "a", "0", 0): "message a 0 0",
    ("message", "message", "bye", 0): "message message bye 0",
    ("ask", ("a", "b", "c"), 0): "ask a,b,c 0",
    ("ask", ("c", "b", "a"), 1): "ask c,b,a 1",
    ("no", ("a", "b", "c", "d"), 2): "no a,b,c,d 2",
    ("yes", ("b", "zzzzzzzz", "a"), 1): "yes b,zzzzzzzz,a 1",
    ("go", tuple("abcdefghijklm"), 10): "go a,b,c,d,e,f,g,h,i,j,k,l,m 10",
    ("go", tuple("abcdefghijklm"), 11): "go a,b,c,d,e,f,g,h,i,j,k,l,m 11",
    ("back", ("back", "ask", "bye"), 0): "back back,ask,bye 0",
    ("bye",): "bye",
}
ITEMS = list(ITEM_TEXTS)

# Values that look like items but are none.
WRONG_ITEMS = [
    ("message",), ("message", "a"), ("message", "a", "hi"), ("message", "a", "hi", 0, 0), ("message", ("a", "hi"), 0),
    ["message", "a", "hi", 0], ("Message", "a", "hi", 0), ("message ", "a", "hi", 0), ("a", "hi", 0),
    ("message", "hi", "a b", 0), ("message", "a1", "hi", 0), ("message", "abcdefghi", "hi", 0), ("message", "", "hi", 0),
    ("message", "a", "", 0), ("message", "a", "HI", 0), ("message", "a", "abcdefghijklm", 0), ("message", "a", "hi\n", 0),
    ("message", "a", "hi", 2), ("message", "a", "hi", -1), ("message", "a", "hi", True), ("message", "a", "hi", False),
    ("message", "a", "hi", "0"), ("message", "a", "hi", None), ("message", "a", "hi", (0,)), ("message", "a", "hi", []),
    (Impostor(), "a", "hi", 0), ("message", Impostor(), "hi", 0), ("message", "a", Impostor(), 0),
    ("message", "a", "hi", Impostor()), (b"message", "a", "hi", 0), (None, "a", "hi", 0), (["message"], "a", "hi", 0),
    ("ask",), ("ask", ("a", "b", "c")), ("ask", ("a", "b", "c"), 0, 0), ("ask", (("a", "b", "c"), 0)),
    ["ask", ("a", "b", "c"), 0], ("Ask", ("a", "b", "c"), 0), ("asks", ("a", "b", "c"), 0), ("", ("a", "b", "c"), 0),
    ("write", ("a", "b", "c"), 0), ("maybe", ("a", "b", "c"), 0), ("message", ("a", "b", "c"), 0),
    ("bye", ("a", "b", "c"), 0), (("a", "b", "c"), 0), (("a", "b", "c"), "ask", 0), ("ask", 0, ("a", "b", "c")),
    (Impostor(), ("a", "b", "c"), 0), (None, ("a", "b", "c"), 0), (0, ("a", "b", "c"), 0), (b"ask", ("a", "b", "c"), 0),
    ("bye", "a"), ("bye", None), ("bye", ()), ("bye", "bye"), ["bye"], ("Bye",), ("by",), ("bye ",), (("bye",),), "bye",
    (Impostor(),), (b"bye",), ("ask a,b,c 0",), ("message a hi 0",),
] + [(kind, *pair) for kind in KINDS for pair in WRONG_PAIRS]

# Values of which none is an item.
NO_ITEMS = NO_RELINKS + WRONG_ITEMS


class Case(unittest.TestCase):
    """A test that can check an error and its fields."""

    def assert_error(self, error, fields, call, *args, **kwargs):
        """The call raises just this error, with these values of its fields."""
        with self.assertRaises(error) as caught:
            call(*args, **kwargs)
        self.assertIs(type(caught.exception), error)
        for name, expected in fields.items():
            self.assert_same(getattr(caught.exception, name), expected)

    def assert_error_with_pair(self, error, pair, call, *args, **kwargs):
        """The call raises just this error, and its value is a tuple of these two values."""
        with self.assertRaises(error) as caught:
            call(*args, **kwargs)
        self.assertIs(type(caught.exception), error)
        value = caught.exception.value
        self.assertIs(type(value), tuple)
        self.assertEqual(len(value), 2)
        self.assert_same(value[0], pair[0])
        self.assert_same(value[1], pair[1])

    def assert_same(self, actual, expected):
        """The very value, or an equal one of the same kind: not every value here can be compared."""
        if actual is not expected:
            self.assertIs(type(actual), type(expected))
            self.assertEqual(actual, expected)


def ascending(link):
    return tuple(sorted(link))


def joins_all(hosts, links):
    """Whether the links connect all hosts."""
    groups = [{host} for host in hosts]
    for one, other in links:
        first = next(group for group in groups if one in group)
        second = next(group for group in groups if other in group)
        if first is not second:
            groups.remove(second)
            first |= second
    return len(groups) == 1


def all_link_lists(hosts):
    """The sorted lists of links of all trees of the hosts."""
    pairs = list(itertools.combinations(sorted(hosts), 2))
    for links in itertools.combinations(pairs, len(hosts) - 1):
        if joins_all(hosts, links):
            yield list(links)


def way(hosts, links, one, other):
    """The only sequence of different hosts from one to the other that follows the links."""
    found = []
    for size in range(1, len(hosts) + 1):
        for steps in itertools.permutations(hosts, size):
            if steps[0] == one and steps[-1] == other:
                if all(ascending(step) in links for step in zip(steps, steps[1:])):
                    found.append(steps)
    assert len(found) == 1
    return found[0]


def host_at(path, at, sides=("x",)):
    """A free host at this place of the path, linked to its path neighbors and to hosts beside the path."""
    return Host(path[at], links=[path[index] for index in (at - 1, at + 1) if 0 <= index < len(path)] + list(sides))


def reserved_host(path, cut, at, sides=("x",)):
    """A host, other than the last one, that is reserved for the relink."""
    host = host_at(path, at, sides)
    if at == 0:
        host.ask(path, cut)
    else:
        host.receive(path[at - 1], ("ask", path, cut))
    assert host.phase() == "reserved"
    return host


def turned_host(path, cut, at, sides=("x",)):
    """A host that is turned; path[cut] never is."""
    if at == len(path) - 1:
        host = host_at(path, at, sides)
        host.receive(path[at - 1], ("ask", path, cut))
    else:
        host = reserved_host(path, cut, at, sides)
        host.receive(path[at + 1], ("yes", path, cut))
        if 0 < at < cut:
            host.receive(path[at - 1], ("go", path, cut))
    assert host.phase() == "turned"
    return host


class World:
    """Hosts that pass their items to each other over channels; it knows what each writer had logged before."""

    def __init__(self, links):
        names = sorted({name for link in links for name in link})
        self.hosts = {
            name: Host(name, links=[other for link in links if name in link for other in link if other != name])
            for name in names
        }
        self.channels = Channels()
        self.pasts = {}
        self.asks = {name: [] for name in names}
        self.has_lost_a_host = False

    def copied(self):
        twin = World([])
        twin.hosts = {name: host.copied() for name, host in self.hosts.items()}
        twin.channels = self.channels.copied()
        twin.pasts = dict(self.pasts)
        twin.asks = {name: list(asks) for name, asks in self.asks.items()}
        twin.has_lost_a_host = self.has_lost_a_host
        return twin

    def send(self, source, sends):
        for goal, item in sends:
            if goal in self.hosts:
                self.channels.put(source, goal, item)

    def write(self, name, word):
        self.pasts[name, word] = self.hosts[name].log()
        self.send(name, self.hosts[name].write(word))

    def ask(self, path, cut):
        self.send(path[0], self.hosts[path[0]].ask(path, cut))
        self.asks[path[0]].append((path, cut))

    def deliver(self, source, goal):
        item = self.channels.take(source, goal)
        self.send(goal, self.hosts[goal].receive(source, item))
        return item

    def add(self, name, at):
        self.hosts[at].add_link(name)
        self.hosts[name] = Host(name, links=[at], log=self.hosts[at].log())
        self.asks[name] = []

    def remove(self, name):
        sends = self.hosts[name].leave()
        del self.hosts[name]
        self.channels.discard_to(name)
        self.send(name, sends)
        self.has_lost_a_host = True

    def settle(self, choose=min):
        """Delivers until nothing is in flight; returns how often."""
        count = 0
        while self.channels.busy():
            self.deliver(*choose(self.channels.busy()))
            count += 1
        return count

    def links(self):
        """The links that both ends have, each in ascending order."""
        pairs = [(name, other) for name, host in self.hosts.items() for other in host.links()]
        return sorted([pair for pair in pairs if pair[0] < pair[1] and (pair[1], pair[0]) in pairs])

    def state(self):
        """A value that two worlds share if all that can still happen in them is the same."""
        rows = [
            (
                name, tuple(host.links()), tuple(host.log()), host.relink(), host.phase(), tuple(host.queue()),
                tuple(host.answers()),
            )
            for name, host in sorted(self.hosts.items())
        ]
        flights = [(pair, tuple(self.channels.in_flight(*pair))) for pair in self.channels.busy()]
        return (tuple(rows), tuple(flights))
