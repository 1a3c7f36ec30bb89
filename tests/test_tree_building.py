import itertools

from relinktree.errors import InvalidTree
from relinktree.trees import Tree
from tests.support import LISTS, NO_NAMES, OTHER_KINDS, TUPLES, WRONG_NAMES
from tests.support import Case, Impostor, all_link_lists, ascending, deep_list, joins_all

HOSTS = ["a", "b", "c", "d"]


class RightTrees(Case):
    def test_one_host(self):
        for tree in [Tree(["a"]), Tree(("a",)), Tree(["a"], []), Tree(["a"], ()), Tree(hosts=["a"])]:
            self.assertEqual([tree.hosts(), tree.links(), tree.leaves(), len(tree)], [["a"], [], [], 1])

    def test_lists_and_tuples(self):
        expected = Tree(["a", "b", "c"], [("a", "b"), ("b", "c")])
        for hosts in [["a", "b", "c"], ("a", "b", "c")]:
            for links in [[("a", "b"), ("b", "c")], (("a", "b"), ("b", "c"))]:
                tree = Tree(hosts, links)
                self.assertEqual(tree, expected)
                self.assertEqual([tree.hosts(), tree.links()], [["a", "b", "c"], [("a", "b"), ("b", "c")]])

    def test_any_order_and_either_direction(self):
        links = [("a", "b"), ("b", "d"), ("b", "c")]
        for hosts in itertools.permutations(HOSTS):
            for order in itertools.permutations(links):
                for turned in itertools.product([False, True], repeat=3):
                    passed = [link[::-1] if turn else link for link, turn in zip(order, turned)]
                    tree = Tree(list(hosts), passed)
                    self.assertEqual(tree.hosts(), HOSTS)
                    self.assertEqual(tree.links(), sorted(links))

    def test_the_longest_names(self):
        tree = Tree(["zzzzzzzz", "a"], [("zzzzzzzz", "a")])
        self.assertEqual([tree.hosts(), tree.links()], [["a", "zzzzzzzz"], [("a", "zzzzzzzz")]])

    def test_many_hosts(self):
        hosts = [one + other for one in "abcdefghij" for other in "abcdefghij"]
        tree = Tree(hosts, list(zip(hosts, hosts[1:])))
        self.assertEqual(len(tree), 100)
        self.assertEqual(tree.path("aa", "jj"), tuple(hosts))

    def test_arguments_are_not_changed(self):
        hosts = ["c", "a", "b"]
        links = [("c", "b"), ("b", "a")]
        Tree(hosts, links)
        self.assertEqual([hosts, links], [["c", "a", "b"], [("c", "b"), ("b", "a")]])

    def test_later_changes_to_the_arguments_have_no_effect(self):
        hosts = ["a", "b"]
        links = [("a", "b")]
        tree = Tree(hosts, links)
        hosts.append("c")
        links.clear()
        self.assertEqual([tree.hosts(), tree.links(), len(tree)], [["a", "b"], [("a", "b")], 2])
        self.assertEqual(tree.neighbors("a"), ["b"])

    def test_two_trees_from_the_same_arguments_share_nothing(self):
        hosts = ["a", "b"]
        links = [("a", "b")]
        one = Tree(hosts, links)
        other = Tree(hosts, links)
        one.hosts().clear()
        one.neighbors("a").append("x")
        self.assertEqual(other.neighbors("a"), ["b"])
        self.assertEqual(one, other)


class WrongHosts(Case):
    def test_no_list_or_tuple_or_empty(self):
        for hosts in OTHER_KINDS + WRONG_NAMES + ["abc", [], ()]:
            self.assert_error(InvalidTree, {"reason": "hosts", "value": hosts}, Tree, hosts)
            self.assert_error(InvalidTree, {"reason": "hosts", "value": hosts}, Tree, hosts, None)
            self.assert_error(InvalidTree, {"reason": "hosts", "value": hosts}, Tree, hosts=hosts, links=[("a", "b")])

    def test_no_host_name(self):
        for host in NO_NAMES:
            for hosts in [[host], (host,), ["a", "b", host], [host, "a"], ["a", host, "a"], ["a", host, "B"]]:
                self.assert_error(InvalidTree, {"reason": "name", "value": host}, Tree, hosts)

    def test_duplicate_host(self):
        for hosts in [["a", "a"], ("b", "a", "b"), ["a", "b", "b", "a"], ["b", "b", "A"], ["b", "b", None]]:
            expected = "a" if hosts == ["a", "a"] else "b"
            self.assert_error(InvalidTree, {"reason": "duplicate", "value": expected}, Tree, hosts)

    def test_hosts_are_checked_in_turn(self):
        self.assert_error(InvalidTree, {"reason": "name", "value": "B"}, Tree, ["a", "B", "C", "a"])
        self.assert_error(InvalidTree, {"reason": "duplicate", "value": "a"}, Tree, ["a", "a", "B"])

    def test_hosts_come_before_links(self):
        for links in [None, [None], [("a", "a")], [("x", "y")]]:
            self.assert_error(InvalidTree, {"reason": "hosts", "value": "ab"}, Tree, "ab", links)
            self.assert_error(InvalidTree, {"reason": "name", "value": "B"}, Tree, ["a", "B"], links)
            self.assert_error(InvalidTree, {"reason": "duplicate", "value": "a"}, Tree, ["a", "a"], links)


class WrongLinks(Case):
    def test_no_list_or_tuple(self):
        for links in OTHER_KINDS + WRONG_NAMES + ["ab"]:
            self.assert_error(InvalidTree, {"reason": "links", "value": links}, Tree, ["a"], links)
            self.assert_error(InvalidTree, {"reason": "links", "value": links}, Tree, ["a", "b"], links=links)

    def test_no_tuple_of_two_hosts(self):
        pairs = [("a", "b", "c"), ("a", "x"), ("x", "a"), ("x", "y"), ("a", "a"), ("x", "x"), ("a", "A"), ("a", "")]
        strings = WRONG_NAMES + ["ab", "a", "a-b"]
        others = [value for value in TUPLES + LISTS + OTHER_KINDS if type(value) is not tuple or value != ("a", "b")]
        for link in pairs + strings + others:
            for links in [[link], (link,), [("a", "b"), link], [link, ("a", "a")], [link, link]]:
                self.assert_error(InvalidTree, {"reason": "link", "value": link}, Tree, ["a", "b", "c"], links)

    def test_values_of_any_kind_inside_of_a_link(self):
        for value in NO_NAMES:
            for link in [("a", value), (value, "a"), (value, value)]:
                self.assert_error(InvalidTree, {"reason": "link", "value": link}, Tree, ["a", "b"], [link])

    def test_a_value_that_equals_a_host_is_no_host(self):
        link = ("b", Impostor())
        self.assert_error(InvalidTree, {"reason": "link", "value": link}, Tree, ["a", "b"], [link])

    def test_duplicate_link(self):
        for first in [("a", "b"), ("b", "a")]:
            for second in [("a", "b"), ("b", "a")]:
                fields = {"reason": "duplicate", "value": second}
                for links in [[first, second], (first, ("b", "c"), second), [first, second, None]]:
                    self.assert_error(InvalidTree, fields, Tree, ["a", "b", "c"], links)

    def test_cycle(self):
        for last in [("a", "c"), ("c", "a")]:
            links = [("a", "b"), ("b", "c"), last]
            self.assert_error(InvalidTree, {"reason": "cycle", "value": last}, Tree, HOSTS, links)
            self.assert_error(InvalidTree, {"reason": "cycle", "value": last}, Tree, HOSTS, links + [("a", "a")])
            self.assert_error(InvalidTree, {"reason": "cycle", "value": last}, Tree, HOSTS, links + [("a", "b")])

    def test_links_are_checked_in_turn(self):
        links = [("a", "b"), ("b", "a"), "x"]
        self.assert_error(InvalidTree, {"reason": "duplicate", "value": ("b", "a")}, Tree, HOSTS, links)
        bad = ["a", "b"]
        self.assert_error(InvalidTree, {"reason": "link", "value": bad}, Tree, HOSTS, [("a", "b"), bad, ("a", "b")])

    def test_connected_comes_last(self):
        links = [("a", "b"), ("a", "b")]
        self.assert_error(InvalidTree, {"reason": "duplicate", "value": ("a", "b")}, Tree, HOSTS, links)
        self.assert_error(InvalidTree, {"reason": "links", "value": None}, Tree, HOSTS, None)

    def test_connected(self):
        cases = [
            (["a", "b"], [], "b"),
            (["b", "a"], (), "b"),
            (["c", "b", "a"], [("c", "b")], "b"),
            (["c", "b", "a"], [("c", "a")], "b"),
            (["c", "b", "a"], [("a", "b")], "c"),
            (["z", "y", "x"], [("z", "y")], "y"),
            (HOSTS, [("a", "d"), ("b", "c")], "b"),
            (HOSTS, [("b", "d"), ("c", "a")], "b"),
            (HOSTS, [("b", "d"), ("d", "a")], "c"),
        ]
        for hosts, links, expected in cases:
            self.assert_error(InvalidTree, {"reason": "connected", "value": expected}, Tree, hosts, links)

    def test_links_has_the_default_of_no_links(self):
        self.assert_error(InvalidTree, {"reason": "connected", "value": "b"}, Tree, ["c", "b", "a"])

    def test_every_set_of_links_of_four_hosts(self):
        pairs = list(itertools.combinations(HOSTS, 2))
        accepted = 0
        for size in range(len(pairs) + 1):
            for links in itertools.permutations(pairs, size) if size < 4 else itertools.combinations(pairs, size):
                expected = first_fault(links)
                if expected is None:
                    self.assertEqual(Tree(HOSTS, links).links(), sorted(links))
                    accepted += 1
                else:
                    reason, value = expected
                    self.assert_error(InvalidTree, {"reason": reason, "value": value}, Tree, HOSTS, links)
        self.assertEqual(accepted, 16 * 6)

    def test_arguments_are_not_changed_by_an_error(self):
        hosts = ["b", "a", "c"]
        links = [("b", "a"), ("a", "b")]
        self.assert_error(InvalidTree, {"reason": "duplicate"}, Tree, hosts, links)
        self.assertEqual([hosts, links], [["b", "a", "c"], [("b", "a"), ("a", "b")]])


def first_fault(links):
    """The reason and the value for different links among four hosts, None for a tree."""
    for count, link in enumerate(links):
        near = groups_of(links[:count])
        if near[link[0]] == near[link[1]]:
            return ("cycle", link)
    near = groups_of(links)
    for host in HOSTS:
        if near[host] != near["a"]:
            return ("connected", host)
    return None


def groups_of(links):
    """For each host the set of the hosts that are connected with it."""
    groups = {host: frozenset([host]) for host in HOSTS}
    for one, other in links:
        merged = groups[one] | groups[other]
        for host in merged:
            groups[host] = merged
    return groups


class Comparing(Case):
    def test_equal_trees(self):
        one = Tree(["a", "b", "c"], [("a", "b"), ("b", "c")])
        other = Tree(("c", "b", "a"), (("c", "b"), ("b", "a")))
        self.assertIs(one == other, True)
        self.assertIs(one != other, False)
        self.assertIs(one == one, True)

    def test_all_trees_of_four_hosts_differ(self):
        trees = [Tree(HOSTS, links) for links in all_link_lists(HOSTS)]
        self.assertEqual(len(trees), 16)
        for at, one in enumerate(trees):
            for index, other in enumerate(trees):
                self.assertIs(one == other, at == index)
                self.assertIs(one != other, at != index)

    def test_trees_of_other_hosts_differ(self):
        self.assertIs(Tree(["a"]) == Tree(["b"]), False)
        self.assertIs(Tree(["a", "b"], [("a", "b")]) == Tree(["a", "c"], [("a", "c")]), False)
        self.assertIs(Tree(["a"]) == Tree(["a", "b"], [("a", "b")]), False)

    def test_other_values_differ(self):
        tree = Tree(["a", "c"], [("a", "c")])
        for value in NO_NAMES + ["a", tree.hosts(), tree.links(), (tree.hosts(), tree.links()), repr(tree)]:
            self.assertIs(tree == value, False)
            self.assertIs(tree != value, True)

    def test_len(self):
        for count in range(1, 13):
            hosts = list("abcdefghijkl"[:count])
            self.assertEqual(len(Tree(hosts, list(zip(hosts, hosts[1:])))), count)

    def test_repr(self):
        self.assertEqual(repr(Tree(("a",))), "Tree(['a'], [])")
        tree = Tree(("c", "b", "a"), (("c", "a"), ("b", "a")))
        self.assertEqual(repr(tree), "Tree(['a', 'b', 'c'], [('a', 'b'), ('a', 'c')])")
        self.assertEqual(eval(repr(tree)), tree)


class Support(Case):
    """The tests' own idea of a tree."""

    def test_links_of_trees(self):
        self.assertEqual(len(list(all_link_lists("abcde"))), 125)
        self.assertIs(joins_all("abc", [("a", "b")]), False)
        self.assertEqual(ascending(("b", "a")), ("a", "b"))
        self.assertEqual(len(deep_list()), 1)
