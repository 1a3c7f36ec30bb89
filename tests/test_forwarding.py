import itertools

from relinktree.errors import InvalidRelink, UnknownHost
from relinktree.roles import forward_bit, forwards
from tests.support import NO_NAMES, NO_RELINKS, Case

RELINK = (("a", "b", "c", "d", "e", "f"), 2)
PATHS = [("a", "b", "c"), ("c", "a", "b"), ("d", "b", "a", "c"), ("e", "d", "c", "b", "a"), tuple("fbdace")]
# Names of the right form that are on none of the paths.
SIDES = ["x", "yy"]


def every_case(path):
    """The hosts, sources and goals of all messages that could be forwarded, with both bits."""
    for host in path:
        for source in [None, *path, *SIDES]:
            for goal in [*path, *SIDES]:
                if host not in (source, goal) and source != goal:
                    for bit in (0, 1):
                        yield host, source, goal, bit


def bit_by_the_rules(path, cut, host, source, goal, bit):
    """What a turned host sends, rule by rule as the document has them."""
    near, far = path[:cut + 1], path[cut + 1:]
    first, last = path[0], path[-1]
    over_side_link = source is not None and source not in path
    wrote = source is None
    for side, end, step in ((far, last, 1), (near, first, -1)):
        if host in side and host != end and goal == path[path.index(host) + step]:
            return 1 if wrote or over_side_link else bit
    for end, other, neighbor in ((first, last, path[1]), (last, first, path[-2])):
        if host == end and goal == other:
            return 0 if wrote or over_side_link or (source == neighbor and bit == 1) else None
    return 0


class ForwardBit(Case):
    def test_every_message_of_a_turned_host(self):
        for path in PATHS:
            for cut in range(len(path) - 1):
                for host, source, goal, bit in every_case(path):
                    sent = forward_bit((path, cut), host, "turned", source, goal, bit)
                    expected = bit_by_the_rules(path, cut, host, source, goal, bit)
                    self.assert_same(sent, expected)

    def test_a_reserved_host_sends_bit_0(self):
        for path in PATHS:
            for cut in range(len(path) - 1):
                for host, source, goal, bit in every_case(path):
                    self.assert_same(forward_bit((path, cut), host, "reserved", source, goal, bit), 0)

    def test_own_messages_of_turned_hosts(self):
        rows = {
            "a": {"f": 0, "b": 0, "x": 0}, "b": {"a": 1, "c": 0, "x": 0}, "c": {"b": 1, "d": 0, "x": 0},
            "d": {"c": 0, "e": 1, "x": 0}, "e": {"d": 0, "f": 1, "x": 0}, "f": {"e": 0, "a": 0, "x": 0},
        }
        for host, bits in rows.items():
            for goal, bit in bits.items():
                self.assertEqual(forward_bit(RELINK, host, "turned", None, goal, 0), bit, (host, goal))

    def test_messages_over_a_side_link(self):
        for bit in (0, 1):
            for host, goal, expected in [
                ("a", "f", 0), ("a", "b", 0), ("b", "a", 1), ("b", "c", 0), ("c", "b", 1), ("c", "d", 0),
                ("d", "c", 0), ("d", "e", 1), ("e", "d", 0), ("e", "f", 1), ("f", "e", 0), ("f", "a", 0),
            ]:
                self.assertEqual(forward_bit(RELINK, host, "turned", "x", goal, bit), expected, (host, goal))
                self.assertEqual(forward_bit(RELINK, host, "turned", "x", "yy", bit), 0)

    def test_messages_along_the_path_towards_the_new_link_keep_their_bit(self):
        for bit in (0, 1):
            for source, host, goal in [("c", "b", "a"), ("d", "c", "b"), ("c", "d", "e"), ("d", "e", "f")]:
                self.assertEqual(forward_bit(RELINK, host, "turned", source, goal, bit), bit)

    def test_messages_along_the_path_away_from_the_new_link(self):
        for bit in (0, 1):
            for source, host, goal in [("a", "b", "c"), ("b", "c", "d"), ("e", "d", "c"), ("f", "e", "d")]:
                self.assertEqual(forward_bit(RELINK, host, "turned", source, goal, bit), 0)

    def test_only_bit_1_crosses_the_new_link(self):
        self.assertIsNone(forward_bit(RELINK, "a", "turned", "b", "f", 0))
        self.assertIsNone(forward_bit(RELINK, "f", "turned", "e", "a", 0))
        self.assert_same(forward_bit(RELINK, "a", "turned", "b", "f", 1), 0)
        self.assert_same(forward_bit(RELINK, "f", "turned", "e", "a", 1), 0)

    def test_side_links_of_both_ends_get_all_messages(self):
        for bit in (0, 1):
            for host, source in [("a", "b"), ("a", "f"), ("f", "e"), ("f", "a")]:
                self.assert_same(forward_bit(RELINK, host, "turned", source, "x", bit), 0)

    def test_the_host_at_the_cut(self):
        for path in PATHS:
            for cut in range(1, len(path) - 1):
                self.assertEqual(forward_bit((path, cut), path[cut], "turned", None, path[cut - 1], 0), 1)
                self.assertEqual(forward_bit((path, cut), path[cut], "turned", None, path[cut + 1], 0), 0)
            for cut in range(len(path) - 2):
                self.assertEqual(forward_bit((path, cut), path[cut + 1], "turned", None, path[cut + 2], 0), 1)
                self.assertEqual(forward_bit((path, cut), path[cut + 1], "turned", None, path[cut], 0), 0)

    def test_the_bit_has_no_effect_on_own_messages(self):
        for path in PATHS:
            for cut in range(len(path) - 1):
                for host, goal in itertools.permutations([*path, "x"], 2):
                    if host != "x":
                        bits = [forward_bit((path, cut), host, "turned", None, goal, bit) for bit in (0, 1)]
                        self.assertEqual(bits[0], bits[1])

    def test_by_name(self):
        bit = forward_bit(bit=1, goal="a", source="c", phase="turned", host="b", relink=RELINK)
        self.assertEqual(bit, 1)

    def test_no_relink(self):
        for value in NO_RELINKS:
            for host in ["a", "x", None, []]:
                self.assert_error(InvalidRelink, {"value": value}, forward_bit, value, host, "turned", None, "b", 0)
                self.assert_error(InvalidRelink, {"value": value}, forward_bit, value, host, "reserved", "c", "b", 1)

    def test_a_host_that_is_not_on_the_path(self):
        for value in NO_NAMES + SIDES + ["abcdef"]:
            for phase in ["reserved", "turned"]:
                self.assert_error(UnknownHost, {"host": value}, forward_bit, RELINK, value, phase, None, "b", 0)


class Forwards(Case):
    def test_a_free_host(self):
        self.assertEqual(forwards(["c", "a", "b"]), [("a", 0), ("b", 0), ("c", 0)])
        self.assertEqual(forwards(["c", "a", "b"], source="a"), [("b", 0), ("c", 0)])
        self.assertEqual(forwards(["c", "a", "b"], source="a", bit=1), [("b", 0), ("c", 0)])
        self.assertEqual(forwards(["c", "a", "b"], bit=1, source="x"), [("a", 0), ("b", 0), ("c", 0)])
        self.assertEqual(forwards(["a"], source="a"), [])

    def test_host_and_phase_have_no_effect_without_a_relink(self):
        for host in [None, "a", "x", 0, [], ("a",)]:
            for phase in ["reserved", "turned", "free"]:
                self.assertEqual(forwards(["c", "a"], host=host, phase=phase, source="a", bit=1), [("c", 0)])
                self.assertEqual(forwards(["c", "a"], host=host, phase=phase, relink=None), [("a", 0), ("c", 0)])

    def test_no_links(self):
        self.assertEqual(forwards([]), [])
        self.assertEqual(forwards(()), [])
        self.assertEqual(forwards([], source="a"), [])
        self.assertEqual(forwards([], relink=RELINK, host="a", phase="turned"), [])

    def test_links_in_any_order_as_a_list_and_as_a_tuple(self):
        for links in itertools.permutations(["b", "x", "aa", "f"]):
            for given in [links, list(links)]:
                self.assertEqual(forwards(given), [("aa", 0), ("b", 0), ("f", 0), ("x", 0)])
                self.assertEqual(
                    forwards(given, source="b", bit=0, relink=RELINK, host="a", phase="turned"), [("aa", 0), ("x", 0)]
                )
                self.assertEqual(
                    forwards(links=given, relink=RELINK, host="a"), [("aa", 0), ("b", 0), ("f", 0), ("x", 0)]
                )

    def test_every_bit_of_every_host(self):
        for path in PATHS:
            for cut in range(len(path) - 1):
                relink = (path, cut)
                for host, source, bit in itertools.product(path, [None, *path, *SIDES], (0, 1)):
                    if host != source:
                        self.check_each_link(relink, host, source, bit)

    def check_each_link(self, relink, host, source, bit):
        links = [name for name in [*SIDES, *relink[0]] if name != host]
        for phase in ["reserved", "turned"]:
            expected = []
            for goal in sorted(links):
                if goal != source:
                    sent = forward_bit(relink, host, phase, source, goal, bit)
                    expected += [(goal, sent)] if sent is not None else []
            actual = forwards(links, source=source, bit=bit, relink=relink, host=host, phase=phase)
            self.assertEqual(actual, expected)
            self.assertNotIn(source, [goal for goal, _ in actual])

    def test_a_reserved_host_is_the_default(self):
        self.assertEqual(forwards(["a", "c"], relink=RELINK, host="b"), [("a", 0), ("c", 0)])
        self.assertEqual(forwards(["a", "c"], relink=RELINK, host="b", phase="turned"), [("a", 1), ("c", 0)])
        self.assertEqual(forwards(["e"], relink=RELINK, host="d", phase="turned"), [("e", 1)])

    def test_the_last_host_keeps_messages_of_bit_0(self):
        for bit, expected in [(0, [("x", 0)]), (1, [("a", 0), ("x", 0)])]:
            sends = forwards(["a", "e", "x"], source="e", bit=bit, relink=RELINK, host="f", phase="turned")
            self.assertEqual(sends, expected)

    def test_kinds_of_the_result(self):
        sends = forwards(("b", "a"), relink=RELINK, host="c", phase="turned")
        self.assertIs(type(sends), list)
        self.assertTrue(all(type(pair) is tuple for pair in sends))

    def test_the_list_is_new_and_the_links_stay(self):
        links = ["c", "a", "b"]
        first = forwards(links, source="b")
        first.append("more")
        self.assertEqual(links, ["c", "a", "b"])
        self.assertEqual(forwards(links, source="b"), [("a", 0), ("c", 0)])
        self.assertEqual(forwards(links, source="b"), forwards(links, source="b"))

    def test_arguments_behind_the_links_are_passed_by_name_only(self):
        with self.assertRaises(TypeError):
            forwards(["a"], "a")

    def test_no_relink(self):
        for value in NO_RELINKS:
            if value is not None:
                for links in [[], ["a", "c"]]:
                    for host in ["b", "x", None]:
                        self.assert_error(InvalidRelink, {"value": value}, forwards, links, relink=value, host=host)

    def test_a_host_that_is_not_on_the_path(self):
        for value in NO_NAMES + SIDES:
            for links in [[], ["a"], ["a", "c"]]:
                self.assert_error(UnknownHost, {"host": value}, forwards, links, relink=RELINK, host=value)
                self.assert_error(
                    UnknownHost, {"host": value}, forwards, links, relink=RELINK, host=value, phase="turned", source="a"
                )
        self.assert_error(UnknownHost, {"host": None}, forwards, ["a"], relink=RELINK)
        self.assert_error(UnknownHost, {"host": None}, forwards, [], relink=RELINK)
