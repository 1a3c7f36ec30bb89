"""Exploration: the number of states and the outcomes of small scenarios, and wrong scenarios."""

import itertools

from relinktree.errors import Busy, InvalidChoice, InvalidScript, NotLinked, TooMany
from relinktree.explore import explore
from relinktree.networks import Network
from relinktree.trees import Tree
from tests.network_support import NO_LISTS, line, tree_of
from tests.support import NO_ITEMS, NO_NAMES, Case, Impostor, deep_list, ring_list
from tests.test_runs import NO_COUNTS

AB = line("ab")
ABC = line("abc")
ASK = ("ask", ("a", "b", "c"), 1)
NO_DICTS = [value for value in NO_NAMES if not isinstance(value, dict)]


def slow_search(tree, scripts):
    """The same as explore, by comparing networks with each other one by one."""
    hosts = sorted(scripts)
    found = {}
    waiting = [(Network(tree), tuple(len(scripts[host]) for host in hosts))]
    found[waiting[0][1]] = [waiting[0][0]]
    outcomes = set()
    while waiting:
        network, left = waiting.pop(0)
        if not any(left) and network.is_at_rest():
            outcomes.add(tuple((host, tuple(network.member(host).log())) for host in network.hosts()))
        for following, rest in slow_steps(network, left, hosts, scripts):
            known = found.setdefault(rest, [])
            if not any(following == other for other in known):
                known.append(following)
                waiting.append((following, rest))
    return sum(len(known) for known in found.values()), sorted(outcomes)


def slow_steps(network, left, hosts, scripts):
    for at, host in enumerate(hosts):
        if left[at]:
            twin = network.copied()
            word, *parts = scripts[host][len(scripts[host]) - left[at]]
            try:
                twin.do(("write", host, *parts) if word == "write" else ("ask", *parts))
            except (Busy, NotLinked):
                pass
            yield twin, left[:at] + (left[at] - 1,) + left[at + 1:]
    for source, goal in network.busy():
        twin = network.copied()
        twin.deliver(source, goal)
        yield twin, left


def outcome(**logs):
    """An outcome, with logs as in "ax by"."""
    return tuple((host, tuple((entry[0], entry[1:]) for entry in log.split())) for host, log in sorted(logs.items()))


class Counted(Case):
    def test_a_scenario_without_actions(self):
        for scripts in [{}, {"a": []}, {"b": (), "a": []}]:
            self.assertEqual(explore(AB, scripts), (1, [outcome(a="", b="")]))
        self.assertEqual(explore(Tree(["a"]), {}), (1, [outcome(a="")]))

    def test_one_host(self):
        self.assertEqual(explore(Tree(["a"]), {"a": [("write", "x"), ("write", "y")]}), (3, [outcome(a="ax ay")]))

    def test_one_message(self):
        # Before the write, in flight, delivered.
        self.assertEqual(explore(AB, {"a": [("write", "x")]}), (3, [outcome(a="ax", b="ax")]))
        # Before the write; a to b; b to c; delivered.
        self.assertEqual(explore(ABC, {"a": [("write", "x")]}), (4, [outcome(a="ax", b="ax", c="ax")]))
        # Before the write, then each of two channels with or without the item.
        self.assertEqual(explore(ABC, {"b": [("write", "x")]}), (5, [outcome(a="bx", b="bx", c="bx")]))

    def test_two_messages_of_one_host(self):
        # For 0, 1 and 2 writes, from 0 up to as many deliveries: 1 + 2 + 3.
        scripts = {"a": [("write", "x"), ("write", "y")]}
        self.assertEqual(explore(AB, scripts), (6, [outcome(a="ax ay", b="ax ay")]))

    def test_two_messages_that_cross(self):
        # Each message is not written, in flight or delivered, and each log keeps the order.
        scripts = {"a": [("write", "x")], "b": [("write", "y")]}
        # Neither: 1. Only x, or only y: 2 each. Both: x delivered before y was written (y in flight or delivered): 2,
        # y delivered before x was written: 2, written before either was delivered: 4.
        outcomes = [outcome(a="ax by", b="ax by"), outcome(a="ax by", b="by ax"), outcome(a="by ax", b="by ax")]
        self.assertEqual(explore(AB, scripts), (13, outcomes))

    def test_equal_messages(self):
        self.assertEqual(explore(AB, {"a": [("write", "x")] * 3}), (10, [outcome(a="ax ax ax", b="ax ax ax")]))

    def test_an_ask_that_fits(self):
        # One item at a time, until "go" and "back" are on their way: before the ask, ask, ask, yes, yes, go, then both
        # of "go" and "back" in flight or delivered.
        self.assertEqual(explore(ABC, {"a": [ASK]}), (10, [outcome(a="", b="", c="")]))
        self.assertEqual(explore(ABC, {"a": [("ask", ("a", "b", "c"), 0)]}), (8, [outcome(a="", b="", c="")]))

    def test_an_ask_that_does_not_fit(self):
        # Before the ask, ask, no, refused.
        self.assertEqual(explore(AB, {"a": [("ask", ("a", "b", "z"), 0)]}), (4, [outcome(a="", b="")]))

    def test_asks_that_raise_an_error_count_as_done(self):
        self.assertEqual(explore(AB, {"a": [("ask", ("a", "z", "b"), 0)]}), (2, [outcome(a="", b="")]))
        # The second ask is Busy, unless the first one was answered.
        count, outcomes = explore(AB, {"a": [("ask", ("a", "b", "z"), 0)] * 2})
        # No ask done: 1. One done: ask, no, answered: 3. Two done: the second was refused at once: ask, no, answered;
        # or it was asked after the first answer: ask, no, answered twice: 3 + 3.
        self.assertEqual((count, outcomes), (10, [outcome(a="", b="")]))
        self.assertEqual(explore(AB, {"a": [("ask", ("a", "z", "b"), 0)] * 3, "b": [("write", "x")]})[0], 12)


class SlowSearch(Case):
    def check(self, tree, scripts):
        count, outcomes = explore(tree, scripts, limit=10 ** 6)
        self.assertEqual((count, outcomes), slow_search(tree, scripts))
        self.assertEqual(outcomes, sorted(set(outcomes)))
        for found in outcomes:
            self.assertEqual([host for host, log in found], tree.hosts())
        return count, outcomes

    def test_messages(self):
        self.check(ABC, {"a": [("write", "x")], "c": [("write", "x"), ("write", "y")]})
        self.check(ABC, {"a": [("write", "x")], "b": [("write", "x")], "c": [("write", "z")]})
        self.check(tree_of("ab ac ad"), {"b": [("write", "x")], "c": [("write", "y")]})

    def test_relinks_and_messages(self):
        for cut in (0, 1):
            self.check(ABC, {"a": [("ask", ("a", "b", "c"), cut)], "b": [("write", "x")]})
            self.check(ABC, {"a": [("ask", ("a", "b", "c"), cut), ("write", "y")], "c": [("write", "x")]})
            self.check(ABC, {"a": [("write", "y"), ("ask", ("a", "b", "c"), cut)], "b": [("write", "x")]})

    def test_asks_that_meet(self):
        count, outcomes = self.check(ABC, {"a": [ASK], "c": [("ask", ("c", "b", "a"), 1)], "b": [("write", "x")]})
        self.assertEqual(outcomes, [outcome(a="bx", b="bx", c="bx")])
        self.check(ABC, {"a": [ASK, ASK], "b": [("ask", ("b", "a", "c"), 0)]})
        self.check(AB, {"a": [("ask", ("a", "b", "z"), 1), ("write", "x"), ("ask", ("a", "z", "b"), 1)], "b": [("write", "y")]})

    def test_all_pairs_of_short_scripts(self):
        actions = [("write", "x"), ("write", "x"), ASK, ("ask", ("a", "c", "b"), 0)]
        for first, second in itertools.product(actions, repeat=2):
            self.check(ABC, {"a": [first, second], "c": [("write", "z")]})


class Guarantees(Case):
    def test_every_outcome_has_every_message_once_and_in_causal_order(self):
        for cut in range(3):
            scripts = {"a": [("ask", ("a", "b", "c", "d"), cut)], "c": [("write", "x"), ("write", "y")], "d": [("write", "z")]}
            count, outcomes = explore(line("abcd"), scripts, limit=20000)
            self.assertGreater(len(outcomes), 1)
            for found in outcomes:
                for host, log in found:
                    self.assertEqual(sorted(log), [("c", "x"), ("c", "y"), ("d", "z")])
                    self.assertLess(log.index(("c", "x")), log.index(("c", "y")))


class Limits(Case):
    def test_exactly_reached_and_passed(self):
        scripts = {"a": [("write", "x")], "b": [("write", "y")]}
        self.assertEqual(explore(AB, scripts, limit=13)[0], 13)
        self.assertEqual(explore(AB, scripts, limit=14)[0], 13)
        self.assertEqual(explore(AB, scripts, limit=10 ** 29)[0], 13)
        for limit in range(1, 13):
            self.assert_error(TooMany, {"limit": limit}, explore, AB, scripts, limit=limit)

    def test_one_state(self):
        self.assertEqual(explore(AB, {}, limit=1), (1, [outcome(a="", b="")]))
        self.assert_error(TooMany, {"limit": 1}, explore, AB, {"a": [("write", "x")]}, limit=1)

    def test_2000_if_nothing_is_said(self):
        # n writes of one host and their deliveries: (n + 1)(n + 2) / 2 states.
        self.assertEqual(explore(AB, {"a": [("write", "x")] * 61})[0], 1953)
        self.assert_error(TooMany, {"limit": 2000}, explore, AB, {"a": [("write", "x")] * 62})
        self.assertEqual(explore(AB, {"a": [("write", "x")] * 62}, limit=2016)[0], 2016)

    def test_limits_of_any_kind(self):
        for value in NO_COUNTS + [0, True, False, -1]:
            self.assert_error(InvalidChoice, {"value": value}, explore, AB, {"a": [("write", "x")]}, limit=value)
            self.assert_error(InvalidChoice, {"value": value}, explore, AB, {}, limit=value)

    def test_by_name_only(self):
        with self.assertRaises(TypeError):
            explore(AB, {}, 5)


class WrongScripts(Case):
    def check(self, value, scripts, tree=ABC):
        self.assert_error(InvalidScript, {"value": value}, explore, tree, scripts)
        # The scripts are checked ahead of the limit.
        self.assert_error(InvalidScript, {"value": value}, explore, tree, scripts, limit=None)

    def test_no_dict(self):
        for value in NO_DICTS + [[("a", [])], (("a", []),), deep_list(), ring_list(), Impostor()]:
            self.check(value, value)

    def test_keys_that_are_no_host(self):
        keys = ["d", "", "ab", None, 0, True, b"a", ("a",), Impostor(), frozenset(["a"]), len, Ellipsis]
        for key in keys:
            self.check(key, {key: []})
            self.check(key, {"b": [("write", "x")], key: None})
            self.check(key, {key: [], "b": None, "zz": 0})

    def test_scripts_that_are_no_list_or_tuple(self):
        for value in NO_LISTS + ["write x", {"write": "x"}, {("write", "x")}]:
            self.check(value, {"a": value})
            self.check(value, {"b": [], "a": value, "c": None})

    def test_elements_that_are_no_action_of_their_host(self):
        wrong = [
            (), ("write",), ("write", ""), ("write", "X"), ("write", "x", "y"), ("write", "a", "x"), ["write", "x"],
            ("write", None), ("write", ("x",)), ("write", Impostor()), ("Write", "x"), (Impostor(), "x"), (b"write", "x"),
            ("write x",), "write x", "write", ("ask",), ("ask", ("a", "b", "c")), ("ask", (("a", "b", "c"), 1)),
            ("ask", ("a", "b", "c"), 2), ("ask", ("a", "b", "c"), -1), ("ask", ("a", "b", "c"), True),
            ("ask", ("a", "b", "c"), "1"), ("ask", ["a", "b", "c"], 1), ("ask", ("a", "b"), 0), ("ask", ("b", "a", "c"), 1),
            ("ask", ("c", "b", "a"), 0), ("ask", "abc", 1), ("ask", ("a", "b", "c"), 1, 1), ["ask", ("a", "b", "c"), 1],
            (Impostor(), ("a", "b", "c"), 1), ("ask", (Impostor(), "b", "c"), 1), ("deliver", "a", "b"), ("remove", "a"),
            ("add", "d", "a"), None, 0, [], {}, deep_list(), (deep_list(), "x"), ("settle",),
        ]
        for value in wrong:
            self.check(value, {"a": [value]})
            self.check(value, {"a": (("write", "x"), value, None)})
            self.check(value, {"c": [("write", "x")], "a": [ASK, value], "zz": []})
        for value in NO_ITEMS:
            if not (isinstance(value, tuple) and len(value) == 2):
                self.check(value, {"a": [value]})

    def test_the_first_fault_in_the_order_of_the_dict(self):
        self.check("zz", {"zz": None, "a": 5})
        self.check(5, {"a": 5, "zz": None})
        self.check(("write", ""), {"b": [("write", "")], "a": 5})
        self.check(5, {"a": 5, "b": [("write", "")]})
        self.check(("ask",), {"a": [("write", "x"), ("ask",), ("write", "")]})

    def test_hosts_of_the_tree_only(self):
        self.check("c", {"c": [("write", "x")]}, tree=AB)
        # The hosts of a path need not be there.
        self.assertEqual(explore(AB, {"a": [("ask", ("a", "b", "z"), 1)]})[0], 4)


class NoOtherEffects(Case):
    def test_the_order_of_the_keys(self):
        scripts = {"a": [ASK], "b": [("write", "y")], "c": [("write", "z")]}
        expected = explore(ABC, scripts)
        for keys in itertools.permutations("abc"):
            self.assertEqual(explore(ABC, {key: scripts[key] for key in keys}), expected)

    def test_the_names_of_the_hosts(self):
        def renamed(value, names):
            if isinstance(value, str):
                return names.get(value, value)
            if isinstance(value, int):
                return value
            return type(value)([renamed(part, names) for part in value])

        scripts = {"a": [ASK, ("write", "x1")], "b": [("write", "y1")], "c": [("write", "z1")]}
        count, outcomes = explore(ABC, scripts, limit=9999)
        for order in itertools.permutations(["p", "q", "zzz"]):
            names = dict(zip("abc", order))
            twin = explore(line(order), {names[key]: renamed(value, names) for key, value in scripts.items()}, limit=9999)
            self.assertEqual(twin[0], count)
            self.assertEqual(twin[1], sorted([tuple(sorted(renamed(found, names))) for found in outcomes]))

    def test_tuples_are_as_good_as_lists(self):
        self.assertEqual(explore(ABC, {"a": (ASK,)}), explore(ABC, {"a": [ASK]}))

    def test_the_arguments_stay_as_they_are_and_the_result_belongs_to_the_caller(self):
        scripts = {"b": [("write", "x")], "a": [ASK]}
        found = explore(tree=ABC, scripts=scripts, limit=500)
        self.assertEqual(list(scripts.items()), [("b", [("write", "x")]), ("a", [ASK])])
        self.assertEqual(ABC, line("abc"))
        expected = list(found[1])
        found[1].clear()
        self.assertEqual(explore(ABC, scripts)[1], expected)
