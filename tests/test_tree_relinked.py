import itertools

from relinktree.errors import InvalidRelink
from relinktree.trees import Tree
from tests.support import NO_NAMES, WRONG_PAIRS, Case, all_link_lists, ascending, way

HOSTS = ["a", "b", "c", "d", "e"]
LINE = [("a", "b"), ("b", "c"), ("c", "d"), ("d", "e")]


def line():
    return Tree(HOSTS, LINE)


def long_ways(tree):
    """The paths of the tree that a relink can have, in both directions."""
    ways = [tree.path(one, other) for one in tree.hosts() for other in tree.hosts()]
    return [path for path in ways if len(path) >= 3]


def links_after(links, path, cut):
    removed = ascending((path[cut], path[cut + 1]))
    return sorted([link for link in links if link != removed] + [ascending((path[0], path[-1]))])


def way_back(path, cut):
    """The relink that undoes this one."""
    return (path[cut::-1] + path[:cut:-1], cut)


class Fitting(Case):
    def test_every_cut_of_a_line(self):
        path = tuple(HOSTS)
        expected = [
            [("a", "e"), ("b", "c"), ("c", "d"), ("d", "e")],
            [("a", "b"), ("a", "e"), ("c", "d"), ("d", "e")],
            [("a", "b"), ("a", "e"), ("b", "c"), ("d", "e")],
            [("a", "b"), ("a", "e"), ("b", "c"), ("c", "d")],
        ]
        self.assertEqual([line().relinked(path, cut).links() for cut in range(4)], expected)

    def test_the_other_direction(self):
        path = tuple(HOSTS)
        for cut in range(4):
            self.assertEqual(line().relinked(path, cut), line().relinked(path[::-1], 3 - cut))

    def test_every_relink_of_every_tree(self):
        for links in all_link_lists(HOSTS):
            tree = Tree(HOSTS, links)
            for path in long_ways(tree):
                for cut in range(len(path) - 1):
                    after = tree.relinked(path, cut)
                    self.assertIs(type(after), Tree)
                    self.assertEqual(after.hosts(), HOSTS)
                    self.assertEqual(after.links(), links_after(links, path, cut))
                    self.assertEqual(after.relinked(*way_back(path, cut)), tree)
            self.assertEqual(tree.links(), links)

    def test_several_relinks_one_after_the_other(self):
        tree = line()
        links = LINE
        relinks = [(("a", "b", "c"), 0), (("b", "c", "d", "e"), 2), (("a", "c", "b", "e"), 1), (("d", "c", "a"), 1)]
        for path, cut in relinks:
            links = links_after(links, path, cut)
            tree = tree.relinked(path, cut)
            self.assertEqual(tree.links(), links)
        self.assertEqual(tree.links(), [("a", "d"), ("a", "e"), ("b", "e"), ("c", "d")])

    def test_there_and_back(self):
        tree = line()
        trail = []
        for path, cut in [(("a", "b", "c"), 0), (("b", "c", "d", "e"), 2), (("a", "c", "b", "e"), 1)]:
            trail.append(way_back(path, cut))
            tree = tree.relinked(path, cut)
        self.assertNotEqual(tree, line())
        for path, cut in reversed(trail):
            tree = tree.relinked(path, cut)
        self.assertEqual(tree, line())

    def test_the_queries_of_the_new_tree(self):
        tree = line().relinked(("b", "c", "d"), 1)
        self.assertEqual(tree.neighbors("b"), ["a", "c", "d"])
        self.assertEqual(tree.leaves(), ["a", "c", "e"])
        self.assertIs(tree.has_link("c", "d"), False)
        self.assertEqual(tree.path("c", "e"), ("c", "b", "d", "e"))

    def test_the_tree_itself_is_unchanged(self):
        tree = line()
        tree.relinked(("a", "b", "c"), 0)
        self.assertEqual(tree, line())
        self.assertEqual([tree.neighbors(host) for host in "abc"], [["b"], ["a", "c"], ["b", "d"]])
        self.assertEqual(tree.relinked(("a", "b", "c"), 0), tree.relinked(("a", "b", "c"), 0))

    def test_three_hosts(self):
        tree = Tree(["a", "b", "c"], [("a", "b"), ("b", "c")])
        self.assertEqual(tree.relinked(("a", "b", "c"), 0).links(), [("a", "c"), ("b", "c")])
        self.assertEqual(tree.relinked(path=("c", "b", "a"), cut=0).links(), [("a", "b"), ("a", "c")])


class NotFitting(Case):
    def test_no_relink(self):
        for path, cut in WRONG_PAIRS:
            tree = line()
            self.assert_error_with_pair(InvalidRelink, (path, cut), tree.relinked, path, cut)
            self.assert_error_with_pair(InvalidRelink, (path, cut), tree.relinked, cut=cut, path=path)
            self.assertEqual(tree, line())

    def test_any_values(self):
        path = ("a", "b", "c")
        for value in NO_NAMES:
            if type(value) is not int or value not in (0, 1):
                self.assert_error_with_pair(InvalidRelink, (path, value), line().relinked, path, value)
            self.assert_error_with_pair(InvalidRelink, (value, value), line().relinked, value, value)
            self.assert_error_with_pair(InvalidRelink, (value, 1), Tree(["x"]).relinked, value, 1)

    def test_every_sequence_of_hosts_of_a_line(self):
        fitting = 0
        for size in range(3, 6):
            for path in itertools.permutations(HOSTS, size):
                if way(HOSTS, LINE, path[0], path[-1]) == path:
                    fitting += 1
                    line().relinked(path, 1)
                else:
                    self.assert_error_with_pair(InvalidRelink, (path, 1), line().relinked, path, 1)
        self.assertEqual(fitting, 12)

    def test_hosts_that_the_tree_does_not_have(self):
        for path in [("x", "y", "z"), ("a", "b", "x"), ("x", "a", "b"), ("a", "x", "b"), ("a", "b", "c", "x")]:
            for cut in range(len(path) - 1):
                self.assert_error_with_pair(InvalidRelink, (path, cut), line().relinked, path, cut)

    def test_a_cut_out_of_range_of_a_fitting_path(self):
        for cut in [-1, 4, 5, True, False, None, "0"]:
            self.assert_error_with_pair(InvalidRelink, (tuple(HOSTS), cut), line().relinked, tuple(HOSTS), cut)

    def test_too_short_paths(self):
        for path in [(), ("a",), ("a", "b")]:
            self.assert_error_with_pair(InvalidRelink, (path, 0), line().relinked, path, 0)
