from relinktree.errors import UnknownHost
from relinktree.trees import Tree
from tests.support import NO_NAMES, Case, all_link_lists, ascending, way

HOSTS = ["a", "b", "c", "d", "e"]
# Names of the right form that no tree here has, and values that are no names.
NO_HOSTS = NO_NAMES + ["x", "aa", "zzzzzzzz"]


def star():
    return Tree(["d", "b", "c", "a"], [("d", "b"), ("b", "c"), ("a", "b")])


class EveryTreeOfFiveHosts(Case):
    def setUp(self):
        self.trees = [(links, Tree(HOSTS, links)) for links in all_link_lists(HOSTS)]

    def test_hosts_and_links(self):
        for links, tree in self.trees:
            self.assertEqual(tree.hosts(), HOSTS)
            self.assertEqual(tree.links(), links)

    def test_neighbors_and_leaves(self):
        for links, tree in self.trees:
            ends = {host: [link for link in links if host in link] for host in HOSTS}
            neighbors = {host: sorted(set(sum(ends[host], ())) - {host}) for host in HOSTS}
            for host in HOSTS:
                self.assertEqual(tree.neighbors(host), neighbors[host])
            self.assertEqual(tree.leaves(), [host for host in HOSTS if len(neighbors[host]) == 1])

    def test_has_link(self):
        for links, tree in self.trees:
            for one in HOSTS:
                for other in HOSTS:
                    self.assertIs(tree.has_link(one, other), ascending((one, other)) in links)

    def test_path(self):
        for links, tree in self.trees[::5]:
            for one in HOSTS:
                for other in HOSTS:
                    self.assertEqual(tree.path(one, other), way(HOSTS, links, one, other))

    def test_path_in_the_other_direction(self):
        for _, tree in self.trees:
            for one in HOSTS:
                self.assertEqual(tree.path(one, one), (one,))
                for other in HOSTS:
                    self.assertEqual(tree.path(one, other), tree.path(other, one)[::-1])


class Results(Case):
    def test_sorted(self):
        tree = star()
        self.assertEqual(tree.hosts(), ["a", "b", "c", "d"])
        self.assertEqual(tree.links(), [("a", "b"), ("b", "c"), ("b", "d")])
        self.assertEqual(tree.leaves(), ["a", "c", "d"])
        self.assertEqual(tree.neighbors("b"), ["a", "c", "d"])
        self.assertEqual(tree.path("d", "a"), ("d", "b", "a"))

    def test_kinds(self):
        tree = star()
        for result in [tree.hosts(), tree.links(), tree.leaves(), tree.neighbors("a")]:
            self.assertIs(type(result), list)
        for result in tree.links() + [tree.path("a", "c"), tree.path("a", "a")]:
            self.assertIs(type(result), tuple)

    def test_one_host(self):
        tree = Tree(["a"])
        self.assertEqual([tree.neighbors("a"), tree.path("a", "a"), tree.has_link("a", "a")], [[], ("a",), False])
        self.assertEqual([tree.hosts(), tree.links(), tree.leaves()], [["a"], [], []])

    def test_two_hosts_are_both_leaves(self):
        self.assertEqual(Tree(["b", "a"], [("b", "a")]).leaves(), ["a", "b"])

    def test_returned_lists_belong_to_the_caller(self):
        tree = star()
        queries = [tree.hosts, tree.links, tree.leaves, lambda: tree.neighbors("b")]
        for query in queries:
            before = query()
            changed = query()
            self.assertIsNot(before, changed)
            changed.reverse()
            changed.append("x")
            self.assertEqual(query(), before)
        self.assertEqual(tree, star())

    def test_repeated_queries(self):
        tree = star()
        for query in [tree.hosts, tree.links, tree.leaves, lambda: tree.neighbors("b"), lambda: tree.path("a", "d"),
                      lambda: tree.has_link("a", "b"), lambda: repr(tree), lambda: len(tree)]:
            self.assertEqual(query(), query())
        self.assertEqual(tree, star())


class UnknownHosts(Case):
    def test_neighbors(self):
        for value in NO_HOSTS:
            self.assert_error(UnknownHost, {"host": value}, star().neighbors, value)
            self.assert_error(UnknownHost, {"host": value}, star().neighbors, host=value)

    def test_has_link(self):
        tree = star()
        for value in NO_HOSTS:
            self.assertIs(tree.has_link("a", value), False)
            self.assertIs(tree.has_link(value, "a"), False)
            self.assertIs(tree.has_link(value, "b"), False)
            self.assertIs(tree.has_link(value, value), False)
            self.assertIs(tree.has_link(value, None), False)

    def test_path(self):
        tree = star()
        for value in NO_HOSTS:
            self.assert_error(UnknownHost, {"host": value}, tree.path, value, "a")
            self.assert_error(UnknownHost, {"host": value}, tree.path, "a", value)
            self.assert_error(UnknownHost, {"host": value}, tree.path, value, value)
            self.assert_error(UnknownHost, {"host": value}, tree.path, value, "x")
            self.assert_error(UnknownHost, {"host": "x"}, tree.path, "x", value)

    def test_path_by_name_reports_one_first(self):
        self.assert_error(UnknownHost, {"host": "x"}, star().path, other="y", one="x")
        self.assert_error(UnknownHost, {"host": "y"}, star().path, other="y", one="a")

    def test_an_error_changes_nothing(self):
        tree = star()
        self.assert_error(UnknownHost, {"host": "x"}, tree.path, "a", "x")
        self.assert_error(UnknownHost, {"host": "x"}, tree.neighbors, "x")
        self.assertEqual(tree, star())
