"""What several tests need: values of many kinds, small trees, and a check of raised errors."""

import itertools
import unittest

from relinktree.trees import Tree


def deep_list():
    """A list nested so deep that Python can neither compare nor show it."""
    value = []
    for _ in range(100000):
        value = [value]
    return value


def ring_list():
    """A list that contains itself."""
    value = []
    value.append(value)
    return value


class Impostor:
    """Equals everything and has the hash of the string "a"."""

    def __eq__(self, other):
        return True

    def __hash__(self):
        return hash("a")


# Values that are no strings, no lists and no tuples.
OTHER_KINDS = [
    None, True, False, 0, 1, 2, -1, 10 ** 29, b"", b"a", b"abc", {}, {"a": "b"}, {"a": ["b"]},
    set(), {"a"}, {"a", "b"}, frozenset(), frozenset(["a"]), range(3), range(0), object(), len, Impostor(), Impostor,
    Tree(["a"]), Tree(["a", "b"], [("a", "b")]), ValueError("a"), Ellipsis, {"a": 1}.keys(), iter(["a"]),
]

# Strings that are no host names.
WRONG_NAMES = ["", " ", "A", "aB", "a1", "a b", "a\n", "\na", " a", "a-", "abcdefghi", "\u00e9", "a" * 1000, "`", "{"]

LISTS = [[], ["a"], ["a", "b"], ["a", "b", "c"], [["a"]], [None], [{}], deep_list(), ring_list()]
TUPLES = [(), ("a",), ("a", "b"), ("a", "b", "c"), (["a"],), (None,), ("a", ["b"]), ({}, "a"), (deep_list(),)]

# Values of which none is a host name.
NO_NAMES = OTHER_KINDS + WRONG_NAMES + LISTS + TUPLES

# Pairs that look like relinks but are none.
WRONG_PAIRS = [
    ((), 0), (("a",), 0), (("a", "b"), 0), (("a", "b"), -1), (["a", "b", "c"], 0), ("abc", 0), ({"a", "b", "c"}, 0),
    (("a", "b", "a"), 0), (("a", "b", "b"), 1), (("a", "a", "b"), 0), (("a", "b", "c", "a"), 1),
    (("a", "b", "c"), -1), (("a", "b", "c"), 2), (("a", "b", "c"), 3), (("a", "b", "c", "d"), 3),
    (("a", "b", "c"), 10 ** 29), (("a", "b", "c"), deep_list()), (("a", "b", "c"), Impostor()),
    (("a", "b", "c"), True), (("a", "b", "c"), False), (("a", "b", "c"), None), (("a", "b", "c"), "1"),
    (("a", "b", "c"), (1,)), (("a", "b", "c"), [0]), (("a", "b", "c"), b"1"), (("a", "b", "c"), {}),
    (("a", "b", "C"), 0), (("a", "", "c"), 0), (("a", "b", "c1"), 0), (("a", "b", "abcdefghi"), 0),
    (("a", "b", None), 0), (("a", "b", ["c"]), 0), ((["a"], "b", "c"), 0), (("a", {}, "c"), 0), (("a", 1, "c"), 0),
    (("a", b"b", "c"), 0), (("a", "b", Impostor()), 0), (("a", "b", deep_list()), 0), (deep_list(), 0),
    (None, None), (0, ("a", "b", "c")), (Impostor(), 0),
]

# Values of which none is a relink.
NO_RELINKS = NO_NAMES + WRONG_PAIRS + [
    (("a", "b", "c"),), (("a", "b", "c"), 1, 1), [("a", "b", "c"), 1], ("a", "b", "c", 1), ((("a", "b", "c"), 1),),
]


class Case(unittest.TestCase):
    """A test that can check an error and its fields."""

    def assert_error(self, error, fields, call, *args, **kwargs):
        """The call raises just this error, with these values of its fields."""
        with self.assertRaises(error) as caught:
            call(*args, **kwargs)
        self.assertIs(type(caught.exception), error)
        for name, expected in fields.items():
            self.assert_same(getattr(caught.exception, name), expected)

    def assert_error_with_pair(self, error, pair, call, *args, **kwargs):
        """The call raises just this error, and its value is a tuple of these two values."""
        with self.assertRaises(error) as caught:
            call(*args, **kwargs)
        self.assertIs(type(caught.exception), error)
        value = caught.exception.value
        self.assertIs(type(value), tuple)
        self.assertEqual(len(value), 2)
        self.assert_same(value[0], pair[0])
        self.assert_same(value[1], pair[1])

    def assert_same(self, actual, expected):
        """The very value, or an equal one of the same kind: not every value here can be compared."""
        if actual is not expected:
            self.assertIs(type(actual), type(expected))
            self.assertEqual(actual, expected)


def ascending(link):
    return tuple(sorted(link))


def joins_all(hosts, links):
    """Whether the links connect all hosts."""
    groups = [{host} for host in hosts]
    for one, other in links:
        first = next(group for group in groups if one in group)
        second = next(group for group in groups if other in group)
        if first is not second:
            groups.remove(second)
            first |= second
    return len(groups) == 1


def all_link_lists(hosts):
    """The sorted lists of links of all trees of the hosts."""
    pairs = list(itertools.combinations(sorted(hosts), 2))
    for links in itertools.combinations(pairs, len(hosts) - 1):
        if joins_all(hosts, links):
            yield list(links)


def way(hosts, links, one, other):
    """The only sequence of different hosts from one to the other that follows the links."""
    found = []
    for size in range(1, len(hosts) + 1):
        for steps in itertools.permutations(hosts, size):
            if steps[0] == one and steps[-1] == other:
                if all(ascending(step) in links for step in zip(steps, steps[1:])):
                    found.append(steps)
    assert len(found) == 1
    return found[0]
