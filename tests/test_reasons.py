"""The reason why a host waits, at every step of a relink, and which values are the reason."""

import random

from relinktree.errors import UnknownHost
from relinktree.networks import Network
from relinktree.reports import is_reason, reason
from relinktree.runs import settle
from relinktree.trees import Tree
from tests.network_support import NetworkCase, any_run, deliver_all, network_on, tree_of
from tests.support import Impostor, NO_NAMES

ABC = ("a", "b", "c")
ABCDE = ("a", "b", "c", "d", "e")


def row(text):
    """The tuple of a reason, as in "a ask a b 0"."""
    *names, ahead = text.split(" ")
    return (*names, int(ahead))


class ReasonCase(NetworkCase):
    def check(self, network, host, *rows):
        """These tuples are the reason why the host waits; a query changes nothing."""
        twin = network.copied()
        self.assertEqual(reason(network, host), [row(text) for text in rows])
        self.assertTrue(is_reason(network, host, [row(text) for text in rows]))
        self.assertTrue(network == twin)
        self.assertEqual(network.events(), twin.events())


class StepByStep(ReasonCase):
    def follow(self, names, path, cut, steps):
        """Delivers the only item of a channel; then the first and the last host have these reasons."""
        network = network_on(names)
        network.ask(path, cut)
        self.check(network, path[0], f"{path[0]} ask {path[0]} {path[1]} 0")
        for channel, first, last in steps:
            network.deliver(*channel)
            self.check(network, path[0], *[f"{path[0]} {text} 0" for text in first.split(", ") if text])
            self.check(network, path[-1], *[f"{path[-1]} {text} 0" for text in last.split(", ") if text])
            for name in path[1:-1]:
                self.check(network, name)
        self.assertTrue(network.is_at_rest())

    def test_three_hosts_cut_0(self):
        self.follow("abc", ABC, 0, [
            ("ab", "ask b c", ""),
            ("bc", "yes c b", "yes c b"),
            ("cb", "yes b a", "yes b a"),
            ("ba", "", "go a b"),
            ("ab", "", "go b c"),
            ("bc", "", ""),
        ])

    def test_three_hosts_cut_1(self):
        self.follow("abc", ABC, 1, [
            ("ab", "ask b c", ""),
            ("bc", "yes c b", "yes c b"),
            ("cb", "yes b a", "yes b a"),
            ("ba", "go a b", "go a b"),
            ("ab", "back b a", "go b c"),
            ("bc", "back b a", ""),
            ("ba", "", ""),
        ])

    def test_five_hosts_every_cut(self):
        up = [("ab", "ask b c", ""), ("bc", "ask c d", ""), ("cd", "ask d e", ""), ("de", "yes e d", "yes e d")]
        up += [("ed", "yes d c", "yes d c"), ("dc", "yes c b", "yes c b"), ("cb", "yes b a", "yes b a")]
        self.follow("abcde", ABCDE, 0, up + [
            ("ba", "", "go a b"), ("ab", "", "go b c"), ("bc", "", "go c d"), ("cd", "", "go d e"), ("de", "", ""),
        ])
        self.follow("abcde", ABCDE, 1, up + [
            ("ba", "go a b", "go a b"), ("ab", "back b a", "go b c"), ("bc", "back b a", "go c d"),
            ("cd", "back b a", "go d e"), ("ba", "", "go d e"), ("de", "", ""),
        ])
        self.follow("abcde", ABCDE, 2, up + [
            ("ba", "go a b", "go a b"), ("ab", "go b c", "go b c"), ("bc", "back c b", "go c d"),
            ("cb", "back b a", "go c d"), ("cd", "back b a", "go d e"), ("ba", "", "go d e"), ("de", "", ""),
        ])
        self.follow("abcde", ABCDE, 3, up + [
            ("ba", "go a b", "go a b"), ("ab", "go b c", "go b c"), ("bc", "go c d", "go c d"),
            ("cd", "back d c", "go d e"), ("de", "back d c", ""), ("dc", "back c b", ""), ("cb", "back b a", ""),
            ("ba", "", ""),
        ])

    def test_refused(self):
        network = network_on("abcd")
        network.ask(("a", "b", "c", "x"), 1)
        network.deliver("a", "b")
        self.check(network, "a", "a ask b c 0")
        network.deliver("b", "c")
        self.check(network, "a", "a no c b 0")
        network.deliver("c", "b")
        self.check(network, "a", "a no b a 0")
        network.deliver("b", "a")
        self.check(network, "a")

    def test_items_ahead_in_the_channel(self):
        network = network_on("abc")
        for word in "xyz":
            network.write("a", word)
        network.ask(ABC, 1)
        network.write("a", "later")
        self.check(network, "a", "a ask a b 3")
        network.deliver("a", "b")
        self.check(network, "a", "a ask a b 2")
        network.write("c", "u")
        network.write("b", "v")
        deliver_all(network, "ab", "ab", "ab")
        # Ahead of it are v, and the messages that were forwarded.
        self.check(network, "a", "a ask b c 4")
        deliver_all(network, "bc", "bc", "bc", "bc")
        self.assertEqual(network.deliver("b", "c"), ("ask", ABC, 1))
        self.check(network, "a", "a yes c b 1")
        self.check(network, "c", "c yes c b 1")

    def test_several_relinks_at_once(self):
        network = network_on("abcdef")
        network.ask(ABC, 1)
        network.ask(("f", "e", "d"), 0)
        self.check(network, "a", "a ask a b 0")
        self.check(network, "f", "f ask f e 0")
        deliver_all(network, "ab", "bc", "cb", "fe", "ed")
        self.check(network, "a", "a yes b a 0")
        self.check(network, "c", "c yes b a 0")
        self.check(network, "f", "f yes d e 0")
        self.check(network, "d", "d yes d e 0")
        self.check(network, "b")

    def test_two_asks_of_the_same_hosts(self):
        network = network_on("abc")
        network.ask(ABC, 0)
        network.ask(("c", "b", "a"), 0)
        self.check(network, "a", "a ask a b 0")
        self.check(network, "c", "c ask c b 0")
        network.deliver("a", "b")
        self.check(network, "a", "a ask b c 0")
        network.deliver("c", "b")
        self.check(network, "c", "c no b c 1")
        # c waits for a, whose ask reaches it over b: it is refused, not queued.
        network.deliver("b", "c")
        self.check(network, "a", "a no c b 0")
        self.check(network, "c", "c no b c 0")


class Byes(ReasonCase):
    def test_an_ask_that_was_discarded(self):
        network = network_on("abcd")
        network.ask(("a", "b", "c", "d"), 1)
        deliver_all(network, "ab", "bc")
        self.check(network, "a", "a ask c d 0")
        network.write("d", "x")
        network.write("d", "y")
        network.remove_leaf("d")
        self.check(network, "a", "a bye d c 2")
        network.deliver("d", "c")
        self.check(network, "a", "a bye d c 1")
        deliver_all(network, "dc", "dc")
        self.check(network, "a", "a no c b 2")
        settle(network)
        self.check(network, "a")

    def test_the_bye_counts_only_when_the_ask_is_gone(self):
        network = network_on("abcd")
        network.ask(("a", "b", "c", "d"), 2)
        network.remove_leaf("d")
        self.check(network, "a", "a ask a b 0")
        network.deliver("a", "b")
        self.check(network, "a", "a ask b c 0")
        network.deliver("b", "c")
        self.check(network, "a", "a bye d c 0")

    def test_the_second_host_has_left(self):
        network = network_on("ab")
        network.remove_leaf("b")
        network.ask(ABC, 0)
        self.check(network, "a", "a bye b a 0")
        network.deliver("b", "a")
        self.check(network, "a")

    def test_other_byes_do_not_count(self):
        network = Network(tree_of("ab bc bx ay"))
        network.ask(ABC, 1)
        network.remove_leaf("y")
        network.deliver("a", "b")
        network.remove_leaf("x")
        network.remove_leaf("c")
        self.check(network, "a", "a bye c b 0")
        deliver_all(network, "xb", "ya")
        self.check(network, "a", "a bye c b 0")

    def test_other_byes_along_the_path_do_not_count(self):
        path = ("a", "x", "b", "c")
        network = Network(tree_of("xa ab bc"))
        network.ask(path, 0)
        network.remove_leaf("x")
        network.remove_leaf("c")
        self.check(network, "a", "a bye x a 0")
        network.ask(("b", "c", "a"), 0)
        self.check(network, "a", "a bye x a 0")
        self.check(network, "b", "b bye c b 0")


class Queues(ReasonCase):
    def test_an_ask_in_the_queue_of_a_last_host(self):
        network = Network(tree_of("ab bc cx"))
        network.ask(ABC, 0)
        deliver_all(network, "ab", "bc", "cb", "ba")
        network.write("a", "w")
        network.ask(("a", "c", "x"), 1)
        self.check(network, "a", "a ask a c 1")
        network.deliver("a", "c")
        self.check(network, "a", "a ask a c 0")
        network.deliver("a", "c")
        self.check(network, "a", "a ask a c -1", "c go a b 0")
        self.check(network, "c", "c go a b 0")
        network.deliver("a", "b")
        self.check(network, "a", "a ask a c -1", "c go b c 0")
        network.deliver("b", "c")
        self.check(network, "a", "a ask c x 1")
        self.check(network, "c")

    def test_an_ask_in_the_queue_of_a_first_host(self):
        network = Network(tree_of("ab bc cx"))
        network.ask(ABC, 1)
        deliver_all(network, "ab", "bc", "cb", "ba", "ab", "bc")
        # c is free again, a still waits for "back".
        network.ask(("c", "a", "b"), 0)
        network.deliver("c", "a")
        self.check(network, "c", "c ask c a -1", "a back b a 0")
        network.deliver("b", "a")
        self.check(network, "c", "c ask a b 0")

    def test_a_middle_host_asks_over_the_new_link(self):
        network = Network(tree_of("ab bc xa"))
        network.ask(ABC, 0)
        deliver_all(network, "ab", "bc", "cb", "ba")
        network.ask(("x", "a", "c"), 0)
        network.deliver("x", "a")
        self.check(network, "x", "x ask a c 0")
        network.deliver("a", "c")
        self.check(network, "x", "x ask a c -1", "c go a b 0")

    def test_a_first_host_that_named_a_neighbor(self):
        network = Network(tree_of("ab ac cd"))
        network.ask(ABC, 0)
        network.ask(("d", "c", "a"), 1)
        deliver_all(network, "dc", "ca")
        self.check(network, "d", "d ask c a -1", "a ask a b 0")
        network.deliver("a", "b")
        self.check(network, "d", "d ask c a -1", "a no b a 0")
        network.deliver("b", "a")
        self.check(network, "d", "d yes a c 0")
        self.check(network, "a", "a yes a c 0")

    def test_chains_of_hosts_that_wait_for_each_other(self):
        names = "abcdefgh"
        network = network_on(names)
        # Each host names the one before it as the last one, so that it queues what this one asks.
        for at in range(6, 0, -1):
            network.ask((names[at], names[at + 1], names[at - 1]), 0)
        network.ask(("a", "b", "z"), 1)
        for at in range(6):
            network.deliver(names[at], names[at + 1])
        rows = [f"{names[at]} ask {names[at]} {names[at + 1]} -1" for at in range(6)] + ["g ask g h 0"]
        for at in range(7):
            self.check(network, names[at], *rows[at:])
        network.deliver("g", "h")
        self.check(network, "a", *rows[:-1], "g no h g 0")
        network.deliver("h", "g")
        self.check(network, "a", *rows[:-2], "f no g f 0")
        settle(network)
        self.check(network, "a")

    def test_a_chain_that_ends_with_a_bye(self):
        network = network_on("abcd")
        network.ask(("c", "d", "b"), 0)
        network.ask(("b", "c", "a"), 0)
        network.deliver("b", "c")
        network.remove_leaf("d")
        self.check(network, "b", "b ask b c -1", "c bye d c 0")


class TheSameRelinkAgain(ReasonCase):
    def setUp(self):
        self.path = ABCDE
        self.network = network_on("abcde")
        self.network.ask(ABCDE, 1)
        deliver_all(self.network, "ab", "bc", "cd", "de", "ed", "dc", "cb", "ba", "ab", "ba")
        self.assertEqual(self.network.member("a").answers(), [(ABCDE, 1, "done")])
        self.network.ask(ABCDE, 1)

    def test_while_the_older_go_is_on_the_far_side(self):
        network = self.network
        self.check(network, "a", "a ask a b 0")
        self.check(network, "e", "e go b c 0")
        network.deliver("b", "c")
        self.check(network, "a", "a ask a b 0")
        self.check(network, "e", "e go c d 0")
        network.deliver("a", "b")
        self.check(network, "a", "a no b a 0")
        self.check(network, "e", "e go c d 0")
        network.deliver("c", "d")
        network.deliver("b", "a")
        self.check(network, "a")
        self.check(network, "e", "e go d e 0")

    def test_while_the_ask_is_discarded(self):
        network = self.network
        network.remove_leaf("b")
        self.check(network, "a", "a bye b a 0")
        self.check(network, "e", "e go b c 0")

    def test_in_the_queue_of_the_last_host(self):
        network = network_on("abc")
        network.ask(ABC, 1)
        deliver_all(network, "ab", "bc", "cb", "ba", "ab", "ba")
        network.ask(("a", "c", "b"), 0)
        network.deliver("a", "c")
        self.check(network, "a", "a ask a c -1", "c go b c 0")

    def test_again_after_the_relink_was_undone(self):
        network = self.network
        settle(network)
        network.ask(("b", "a", "e", "d", "c"), 1)
        settle(network)
        self.assertEqual(network.member("b").answers()[-1][2], "done")
        network.ask(ABCDE, 1)
        deliver_all(network, "ab", "bc", "cd", "de")
        self.check(network, "a", "a yes e d 0")
        self.check(network, "e", "e yes e d 0")


class EveryReason(NetworkCase):
    def test_the_item_is_there_and_the_host_waits_for_it(self):
        seen = {}

        def check(network, event):
            for name in network.hosts():
                rows = reason(network, name)
                self.assertEqual(rows == [], network.member(name).waits_for() is None)
                self.assertTrue(is_reason(network, name, rows))
                for at, (host, kind, source, goal, ahead) in enumerate(rows):
                    self.assertEqual(host, name if at == 0 else rows[at - 1][3])
                    self.check_place(network, rows[at], at == len(rows) - 1)
                    seen[kind, ahead < 0] = seen.get((kind, ahead < 0), 0) + 1
                if rows and len(network.events()) % 5 == 0:
                    self.check_wait(network, name)

        for seed in range(2000, 2050):
            any_run(seed, ["write", "ask", "ask", "deliver", "deliver", "deliver", "add", "remove"], check)
        kinds = [("ask", False), ("ask", True), ("no", False), ("yes", False), ("go", False), ("back", False), ("bye", False)]
        self.assertEqual(sorted(seen), sorted(kinds))

    def check_place(self, network, found, is_last):
        host, kind, source, goal, ahead = found
        relink = network.member(host).relink()
        self.assertEqual(is_last, ahead >= 0)
        if ahead < 0:
            self.assertEqual(network.member(goal).waits_for(), source)
            self.assertNotEqual(network.member(goal).relink(), relink)
            self.assertIn((kind, *relink), network.member(goal).queue())
        else:
            item = ("bye",) if kind == "bye" else (kind, *relink)
            self.assertEqual(network.in_flight(source, goal)[ahead], item)

    def check_wait(self, network, name):
        """The host waits as long as that channel delivers nothing, and stops waiting if only such channels deliver."""
        blocked = network.copied()
        channel = reason(network, name)[-1][2:4]
        part = network.member(name).relink()
        rng = random.Random(len(network.events()))
        while blocked.busy() != [channel]:
            blocked.deliver(*rng.choice([pair for pair in blocked.busy() if pair != channel]))
            self.assertEqual(blocked.member(name).relink(), part)
        helped = network.copied()
        count = 0
        while reason(helped, name):
            helped.deliver(*reason(helped, name)[-1][2:4])
            count += 1
            self.assertLess(count, 1000)


class Errors(ReasonCase):
    def test_values_that_are_no_present_host(self):
        network = network_on("bcd")
        network.remove_leaf("d")
        for value in NO_NAMES + ["a", "z", "d"]:
            self.assert_refused(network, UnknownHost, {"host": value}, reason, network, value)
            for other in ([], None, value):
                self.assert_refused(network, UnknownHost, {"host": value}, is_reason, network, value, other)

    def test_by_name(self):
        network = network_on("abc")
        network.ask(ABC, 1)
        self.assertEqual(reason(host="a", network=network), [row("a ask a b 0")])
        self.assertTrue(is_reason(value=[row("a ask a b 0")], host="a", network=network))

    def test_the_list_belongs_to_the_caller(self):
        network = network_on("abc")
        network.ask(ABC, 1)
        reason(network, "a").clear()
        reason(network, "b").append(None)
        self.check(network, "a", "a ask a b 0")
        self.check(network, "b")


class Nearly(ReasonCase):
    def setUp(self):
        self.network = Network(tree_of("ab bc cx"))
        self.network.ask(ABC, 0)
        deliver_all(self.network, "ab", "bc", "cb", "ba")
        self.network.ask(("a", "c", "x"), 1)
        self.network.deliver("a", "c")
        self.rows = [row("a ask a c -1"), row("c go a b 0")]

    def test_the_reason(self):
        self.assertTrue(is_reason(self.network, "a", self.rows))
        self.assertTrue(is_reason(self.network, "c", self.rows[1:]))
        self.assertTrue(is_reason(self.network, "b", []))
        self.assertFalse(is_reason(self.network, "b", ()))
        self.assertIs(is_reason(self.network, "a", self.rows), True)
        self.assertIs(is_reason(self.network, "a", None), False)

    def test_values_that_are_nearly_the_reason(self):
        one, other = self.rows
        for value in [
            [], [one], [other], [other, one], [one, other, other], [one, one], (one, other), [list(one), other],
            [one, list(other)], [one[:4], other], [one, other[:4]], [(*one, 0), other], [one, (*other, None)], [one, None],
            [one, other, None], [None, other], [[one, other]], ((one, other),), {"a": one}, "a ask a c -1", [one, ()],
            [("a", "ask", "a", "c", 0), other], [("a", "ask", "a", "c", 1), other], [("a", "ask", "a", "c", -2), other],
            [("a", "ask", "a", "b", -1), other], [("a", "ask", "c", "a", -1), other], [("c", "ask", "a", "c", -1), other],
            [("a", "go", "a", "c", -1), other], [("a", b"ask", "a", "c", -1), other],
            [one, ("c", "go", "a", "b", 1)], [one, ("c", "go", "a", "b", "0")], [one, ("c", "go", "a", "b", None)],
            [one, ("c", "go", "a", "b", False)], [one, ("c", "go", "a", "b", Impostor())],
            [one, ("c", "go", "a", Impostor(), 0)], [one, (Impostor(), "go", "a", "b", 0)], [one, ("c", Impostor(), "a", "b", 0)],
            [one, Impostor()], [Impostor(), other], Impostor(), [one, ("c", "go", ["a"], "b", 0)], [one, "cgab0"],
        ]:
            self.assertFalse(is_reason(self.network, "a", value), repr(value))

    def test_true_is_not_1(self):
        network = network_on("abc")
        network.write("a", "x")
        network.ask(ABC, 1)
        self.assertTrue(is_reason(network, "a", [("a", "ask", "a", "b", 1)]))
        self.assertFalse(is_reason(network, "a", [("a", "ask", "a", "b", True)]))
        self.assertFalse(is_reason(network, "a", [("a", "ask", "a", "b", 0)]))

    def test_values_of_any_kind(self):
        for value in NO_NAMES + [self.rows, "x", 0]:
            for host in "abcx":
                expected = value is self.rows and host == "a" or isinstance(value, list) and value == [] and host in "bx"
                self.assertEqual(is_reason(self.network, host, value), expected)
                self.assertFalse(is_reason(self.network, host, [value]))
                self.assertFalse(is_reason(self.network, "a", [self.rows[0], value]))
        self.assertFalse(is_reason(Network(Tree(["a"])), "a", False))
