from relinktree.errors import InvalidRelink, UnknownHost
from relinktree.relinks import added_link, are_independent, is_near, is_relink, position, removed_link
from tests.support import NO_NAMES, NO_RELINKS, Case, ascending

RELINK = (("d", "c", "b", "a"), 1)
PATHS = [
    ("a", "b", "c"), ("c", "b", "a"), ("b", "a", "c"), ("d", "c", "b", "a"), ("a", "zzzzzzzz", "b", "y"),
    tuple("abcdefghijkl"), tuple("lkjihgfedcba"), tuple("qwertyuiopasdfgh"),
]
# Names of the right form that RELINK does not have, and values that are no names.
NOT_ON_THE_PATH = NO_NAMES + ["x", "aa", "dcba", "e"]


class IsRelink(Case):
    def test_every_cut(self):
        for path in PATHS:
            for cut in range(-3, len(path) + 3):
                self.assertIs(is_relink((path, cut)), 0 <= cut <= len(path) - 2, (path, cut))

    def test_shortest_paths(self):
        self.assertIs(is_relink((("a", "b", "c"), 0)), True)
        self.assertIs(is_relink((("a", "b", "c"), 1)), True)
        for cut in [-1, 0, 1]:
            self.assertIs(is_relink((("a", "b"), cut)), False)
            self.assertIs(is_relink((("a",), cut)), False)
            self.assertIs(is_relink(((), cut)), False)

    def test_a_flag_is_no_cut(self):
        for path in PATHS:
            self.assertIs(is_relink((path, True)), False)
            self.assertIs(is_relink((path, False)), False)

    def test_lists_instead_of_tuples(self):
        self.assertIs(is_relink([("a", "b", "c"), 1]), False)
        self.assertIs(is_relink((["a", "b", "c"], 1)), False)
        self.assertIs(is_relink([["a", "b", "c"], 1]), False)

    def test_repeated_hosts(self):
        for path in [("a", "b", "a"), ("a", "a", "b"), ("a", "b", "b"), ("a", "b", "c", "b"), ("a", "b", "c", "a")]:
            for cut in [0, 1]:
                self.assertIs(is_relink((path, cut)), False)

    def test_values_of_any_kind(self):
        for value in NO_RELINKS:
            self.assertIs(is_relink(value), False)
            self.assertIs(is_relink(value=value), False)

    def test_values_of_any_kind_on_the_path(self):
        for value in NO_NAMES:
            for path in [(value, "y", "z"), ("y", value, "z"), ("y", "z", value), (value, value, value)]:
                self.assertIs(is_relink((path, 0)), False)


class Links(Case):
    def test_every_cut(self):
        for path in PATHS:
            for cut in range(len(path) - 1):
                self.assertEqual(added_link((path, cut)), ascending((path[0], path[-1])))
                self.assertEqual(removed_link((path, cut)), ascending((path[cut], path[cut + 1])))

    def test_in_ascending_order(self):
        self.assertEqual(added_link((("a", "c", "b"), 0)), ("a", "b"))
        self.assertEqual(added_link((("b", "c", "a"), 0)), ("a", "b"))
        self.assertEqual(removed_link((("a", "c", "b"), 1)), ("b", "c"))
        self.assertEqual(removed_link((("a", "c", "b"), 0)), ("a", "c"))
        self.assertEqual(added_link((("b", "c", "aa"), 0)), ("aa", "b"))

    def test_kinds(self):
        self.assertIs(type(added_link(RELINK)), tuple)
        self.assertIs(type(removed_link(RELINK)), tuple)

    def test_no_relink(self):
        for value in NO_RELINKS:
            self.assert_error(InvalidRelink, {"value": value}, added_link, value)
            self.assert_error(InvalidRelink, {"value": value}, removed_link, value)
            self.assert_error(InvalidRelink, {"value": value}, added_link, relink=value)
            self.assert_error(InvalidRelink, {"value": value}, removed_link, relink=value)


class Positions(Case):
    def test_every_host(self):
        for path in PATHS:
            for cut in range(len(path) - 1):
                for at in range(len(path)):
                    self.assertEqual(position((path, cut), path[at]), at)
                    self.assertIs(is_near((path, cut), path[at]), at <= cut)

    def test_both_sides(self):
        self.assertEqual([is_near(RELINK, host) for host in RELINK[0]], [True, True, False, False])
        self.assertEqual([position(RELINK, host) for host in RELINK[0]], [0, 1, 2, 3])

    def test_not_on_the_path(self):
        for host in NOT_ON_THE_PATH:
            self.assert_error(UnknownHost, {"host": host}, position, RELINK, host)
            self.assert_error(UnknownHost, {"host": host}, is_near, RELINK, host)
            self.assert_error(UnknownHost, {"host": host}, position, host=host, relink=RELINK)
            self.assert_error(UnknownHost, {"host": host}, is_near, host=host, relink=RELINK)

    def test_no_relink_is_reported_first(self):
        for value in NO_RELINKS:
            for host in ["a", "x", None, []]:
                self.assert_error(InvalidRelink, {"value": value}, position, value, host)
                self.assert_error(InvalidRelink, {"value": value}, is_near, value, host)


class Independence(Case):
    def test_no_common_host(self):
        self.assertIs(are_independent((("a", "b", "c"), 0), (("d", "e", "f"), 1)), True)
        self.assertIs(are_independent((("a", "b", "c"), 0), (("aa", "bb", "cc"), 0)), True)

    def test_one_common_host_at_every_position(self):
        for at in range(3):
            for index in range(3):
                one = ["a", "b", "c"]
                other = ["d", "e", "f"]
                one[at] = other[index] = "x"
                for cut in range(2):
                    self.assertIs(are_independent((tuple(one), cut), (tuple(other), 1 - cut)), False)

    def test_the_same_relink(self):
        self.assertIs(are_independent(RELINK, RELINK), False)
        self.assertIs(are_independent(RELINK, (RELINK[0], 0)), False)
        self.assertIs(are_independent(RELINK, (RELINK[0][::-1], 0)), False)

    def test_paths_of_different_length(self):
        self.assertIs(are_independent((("a", "b", "c"), 0), (("d", "e", "f", "g", "h"), 3)), True)
        self.assertIs(are_independent((("d", "e", "f", "g", "h"), 3), (("a", "b", "h"), 0)), False)
        self.assertIs(are_independent((("a", "b", "h"), 0), (("d", "e", "f", "g", "h"), 3)), False)

    def test_no_relink(self):
        for value in NO_RELINKS:
            self.assert_error(InvalidRelink, {"value": value}, are_independent, value, RELINK)
            self.assert_error(InvalidRelink, {"value": value}, are_independent, RELINK, value)
            self.assert_error(InvalidRelink, {"value": value}, are_independent, one=RELINK, other=value)

    def test_the_first_of_two_wrong_ones_is_reported(self):
        first = (("a", "b"), 0)
        second = (("a", "b", "c"), 2)
        self.assert_error(InvalidRelink, {"value": first}, are_independent, first, second)
        self.assert_error(InvalidRelink, {"value": second}, are_independent, second, first)
        self.assert_error(InvalidRelink, {"value": first}, are_independent, other=second, one=first)

    def test_both_wrong_and_with_common_hosts(self):
        wrong = (["d", "c", "b"], 0)
        self.assert_error(InvalidRelink, {"value": wrong}, are_independent, RELINK, wrong)
