"""Hosts that join a network as leaves, and leaves that leave it, also while a relink is on its way."""

from relinktree.errors import Busy, InvalidName, NameTaken, NotALeaf, UnknownHost
from relinktree.networks import Network
from relinktree.runs import settle, tree_at_rest
from relinktree.trees import Tree
from tests.network_support import NetworkCase, deliver_all, host_state, network_on, state, tree_of
from tests.support import NO_NAMES

ABC = ("a", "b", "c")
ABCD = ("a", "b", "c", "d")
BYE = ("bye",)


def message(writer, word, bit=0):
    return ("message", writer, word, bit)


class NewLeaves(NetworkCase):
    def test_at_a_free_host(self):
        network = network_on("ab")
        network.write("b", "x")
        network.deliver("b", "a")
        network.write("b", "y")
        self.assertIsNone(network.add_leaf("c", at="a"))
        self.assertEqual(host_state(network.member("c")), ("c", ["a"], [("b", "x")], None, "free", None, [], []))
        self.assertEqual(host_state(network.member("a")), ("a", ["b", "c"], [("b", "x")], None, "free", None, [], []))
        self.assertEqual(state(network)[1:], ({("b", "a"): [message("b", "y")]}, 3, False))
        network.deliver("b", "a")
        self.assertEqual(network.in_flight("a", "c"), [message("b", "y")])
        network.deliver("a", "c")
        self.assertEqual(network.member("c").log(), [("b", "x"), ("b", "y")])

    def test_the_log_is_a_copy(self):
        network = Network(Tree(["a"]))
        network.write("a", "x")
        network.add_leaf(at="a", name="b")
        network.write("a", "y")
        network.write("b", "z")
        logs = [network.member(name).log() for name in "ab"]
        self.assertEqual(logs, [[("a", "x"), ("a", "y")], [("a", "x"), ("b", "z")]])

    def test_at_a_reserved_host_that_queues_items(self):
        network = Network(tree_of("ab ac"))
        network.ask(ABC, 0)
        network.write("c", "x")
        network.deliver("c", "a")
        self.assertEqual(network.member("a").queue(), [message("c", "x")])
        network.add_leaf("d", at="a")
        self.assertEqual(network.member("d").log(), [])
        self.assertEqual([network.member("a").links(), network.member("a").phase()], [["b", "c", "d"], "reserved"])
        deliver_all(network, "ab", "ba")
        self.assertEqual(network.in_flight("a", "d"), [message("c", "x")])
        self.assertEqual(network.member("a").answers(), [(ABC, 0, "refused")])
        settle(network)
        self.assertEqual(network.member("d").log(), [("c", "x")])

    def test_at_reserved_and_turned_hosts(self):
        for at in "abcd":
            for steps in range(12):
                for cut in range(3):
                    self.check_leaf(at, steps, cut)

    def check_leaf(self, at, steps, cut):
        """A leaf that joins after some steps of a relink hears what is written then, and is heard."""
        network = network_on("abcd")
        network.write("c", "early")
        network.ask(ABCD, cut)
        for _ in range(steps):
            if network.busy():
                network.deliver(*network.busy()[-1])
        network.add_leaf("n", at=at)
        self.assertEqual(network.member("n").log(), network.member(at).log())
        self.assertEqual(network.member("n").links(), [at])
        self.assertIn("n", network.member(at).links())
        network.write("n", "late")
        for name in "abcd":
            network.write(name, "w" + name)
        settle(network)
        self.assertEqual(network.member("a").answers(), [(ABCD, cut, "done")])
        written = [("c", "early"), ("n", "late")] + [(name, "w" + name) for name in "abcd"]
        for name in "abcdn":
            self.assertEqual(sorted(network.member(name).log()), sorted(written), (at, steps, cut, name))
        self.assertEqual(tree_at_rest(network).neighbors("n"), [at])

    def test_a_host_that_a_relink_named_before(self):
        network = network_on("ab")
        network.ask(ABC, 1)
        network.add_leaf("c", at="b")
        settle(network)
        self.assertEqual(network.member("a").answers(), [(ABC, 1, "done")])
        self.assertEqual(tree_at_rest(network), tree_of("ab ac"))

    def test_values_that_are_no_names(self):
        network = network_on("ab")
        for value in NO_NAMES:
            self.assert_refused(network, InvalidName, {"value": value}, network.add_leaf, value, at="a")
            self.assert_refused(network, InvalidName, {"value": value}, network.add_leaf, value, at=None)

    def test_names_that_were_used(self):
        network = network_on("abc")
        network.add_leaf("d", at="a")
        network.remove_leaf("d")
        network.remove_leaf("c")
        for name in "abcd":
            self.assert_refused(network, NameTaken, {"value": name}, network.add_leaf, name, at="a")
            self.assert_refused(network, NameTaken, {"value": name}, network.add_leaf, name, at="z")
        settle(network)
        for name in "abcd":
            self.assert_refused(network, NameTaken, {"value": name}, network.add_leaf, name, at="a")

    def test_a_name_whose_adding_failed_can_be_used(self):
        network = network_on("ab")
        self.assert_refused(network, UnknownHost, {"host": "d"}, network.add_leaf, "c", at="d")
        network.add_leaf("c", at="a")
        self.assertEqual(network.hosts(), ["a", "b", "c"])

    def test_hosts_that_are_not_present(self):
        network = network_on("bcd")
        network.remove_leaf("d")
        for value in NO_NAMES + ["a", "x", "z", "d"]:
            self.assert_refused(network, UnknownHost, {"host": value}, network.add_leaf, "x", at=value)

    def test_at_is_passed_by_name_only(self):
        with self.assertRaises(TypeError):
            network_on("ab").add_leaf("c", "a")


class Leaving(NetworkCase):
    def test_a_leaf_is_gone_and_its_bye_is_in_flight(self):
        network = network_on("abc")
        self.assertIsNone(network.remove_leaf("c"))
        self.assertEqual([network.hosts(), len(network)], [["a", "b"], 2])
        self.assertEqual(network.member("b").links(), ["a", "c"])
        self.assertEqual(state(network)[1:], ({("c", "b"): [BYE]}, 2, False))
        self.assertEqual(network.deliver("c", "b"), BYE)
        self.assertEqual([network.member("b").links(), network.is_at_rest()], [["a"], True])

    def test_items_to_it_are_discarded_and_its_own_stay(self):
        network = network_on("abc")
        network.write("a", "x")
        network.deliver("a", "b")
        network.write("b", "y")
        network.write("c", "z")
        self.assertEqual(len(network.in_flight("b", "c")), 2)
        network.remove_leaf("c")
        self.assertEqual(network.busy(), [("b", "a"), ("c", "b")])
        self.assertEqual(network.in_flight("c", "b"), [message("c", "z"), BYE])
        self.assertEqual(network.in_flight("b", "c"), [])
        settle(network)
        self.assertEqual(network.member("a").log(), [("a", "x"), ("b", "y"), ("c", "z")])
        self.assertEqual(network.member("b").log(), [("a", "x"), ("b", "y"), ("c", "z")])

    def test_items_sent_to_it_later_are_discarded(self):
        network = network_on("abc")
        network.remove_leaf("c")
        network.write("b", "x")
        self.assertEqual(network.busy(), [("b", "a"), ("c", "b")])
        network.write("a", "y")
        network.deliver("a", "b")
        self.assertEqual(network.busy(), [("b", "a"), ("c", "b")])
        self.assertEqual(network.member("b").log(), [("b", "x"), ("a", "y")])

    def test_values_that_are_no_present_host(self):
        network = network_on("bcd")
        network.remove_leaf("d")
        for value in NO_NAMES + ["a", "z", "d"]:
            self.assert_refused(network, UnknownHost, {"host": value}, network.remove_leaf, value)

    def test_hosts_with_several_links(self):
        network = Network(tree_of("ab bc bd"))
        self.assert_refused(network, NotALeaf, {"host": "b"}, network.remove_leaf, "b")
        network.remove_leaf(host="a")
        network.remove_leaf("c")
        self.assert_refused(network, NotALeaf, {"host": "b"}, network.remove_leaf, "b")
        network.deliver("a", "b")
        self.assert_refused(network, NotALeaf, {"host": "b"}, network.remove_leaf, "b")
        network.deliver("c", "b")
        network.remove_leaf("b")
        self.assertEqual(network.hosts(), ["d"])

    def test_hosts_that_take_part_in_a_relink(self):
        network = network_on("abc")
        network.ask(ABC, 1)
        self.assert_refused(network, Busy, {"host": "a"}, network.remove_leaf, "a")
        network.deliver("a", "b")
        # Busy comes first, although b is no leaf either.
        self.assert_refused(network, Busy, {"host": "b"}, network.remove_leaf, "b")
        network.deliver("b", "c")
        self.assert_refused(network, Busy, {"host": "c"}, network.remove_leaf, "c")

    def test_the_only_present_host(self):
        network = Network(Tree(["a"]))
        self.assert_refused(network, NotALeaf, {"host": "a"}, network.remove_leaf, "a")
        network = network_on("ab")
        network.remove_leaf("b")
        # It still has a link, until the "bye" arrives.
        self.assertEqual(network.member("a").links(), ["b"])
        self.assert_refused(network, NotALeaf, {"host": "a"}, network.remove_leaf, "a")
        network.deliver("b", "a")
        self.assertEqual(network.member("a").links(), [])
        self.assert_refused(network, NotALeaf, {"host": "a"}, network.remove_leaf, "a")

    def test_the_only_present_host_that_waits(self):
        network = network_on("ab")
        network.ask(ABC, 1)
        network.remove_leaf("b")
        self.assert_refused(network, Busy, {"host": "a"}, network.remove_leaf, "a")
        network.deliver("b", "a")
        self.assertEqual(network.member("a").answers(), [(ABC, 1, "refused")])


class LeavingWhileARelinkIsOnItsWay(NetworkCase):
    def test_an_ask_in_flight_to_the_leaf(self):
        network = network_on("abcd")
        network.ask(ABCD, 1)
        deliver_all(network, "ab", "bc")
        self.assertEqual(network.in_flight("c", "d"), [("ask", ABCD, 1)])
        network.remove_leaf("d")
        self.assertEqual(network.in_flight("c", "d"), [])
        self.assertEqual([network.member(name).phase() for name in "abc"], ["reserved"] * 3)
        self.assertEqual(deliver_all(network, "dc", "cb", "ba"), ["bye", "no", "no"])
        self.assertEqual(network.member("a").answers(), [(ABCD, 1, "refused")])
        self.assertEqual(tree_at_rest(network), tree_of("ab bc"))

    def test_the_leaf_left_before_the_ask_was_sent_to_it(self):
        network = network_on("abc")
        network.ask(ABC, 1)
        network.remove_leaf("c")
        self.assertEqual(network.deliver("a", "b"), ("ask", ABC, 1))
        self.assertEqual([network.busy(), network.member("b").phase()], [[("c", "b")], "reserved"])
        self.assertEqual(deliver_all(network, "cb", "ba"), ["bye", "no"])
        self.assertEqual(network.member("a").answers(), [(ABC, 1, "refused")])
        self.assertTrue(network.is_at_rest())

    def test_the_bye_arrives_before_the_ask(self):
        network = network_on("abc")
        network.ask(ABC, 1)
        network.remove_leaf("c")
        self.assertEqual(deliver_all(network, "cb", "ab", "ba"), ["bye", "ask", "no"])
        self.assertEqual(network.member("a").answers(), [(ABC, 1, "refused")])

    def test_the_second_host_of_the_path_leaves(self):
        network = network_on("ab")
        network.ask(ABC, 0)
        network.remove_leaf("b")
        self.assertEqual(state(network)[1], {("b", "a"): [BYE]})
        self.assertEqual(network.deliver("b", "a"), BYE)
        self.assertEqual(host_state(network.member("a")), ("a", [], [], None, "free", None, [], [(ABC, 0, "refused")]))

    def test_the_first_host_leaves_while_go_is_in_flight(self):
        network = network_on("abc")
        network.ask(ABC, 0)
        self.assertEqual(deliver_all(network, "ab", "bc", "cb", "ba"), ["ask", "ask", "yes", "yes"])
        network.write("a", "x")
        network.remove_leaf("a")
        self.assertEqual(network.in_flight("a", "b"), [("go", ABC, 0)])
        self.assertEqual(network.in_flight("a", "c"), [message("a", "x"), BYE])
        self.assertEqual(deliver_all(network, "ac", "ac"), ["message", "bye"])
        self.assertEqual(network.member("c").queue(), [message("a", "x"), BYE])
        self.assertEqual(network.member("c").links(), ["a", "b"])
        self.assertEqual(deliver_all(network, "ab", "bc", "cb"), ["go", "go", "message"])
        self.assertEqual(tree_at_rest(network), tree_of("bc"))
        self.assertEqual(network.member("b").log(), [("a", "x")])

    def test_a_host_of_the_near_side_leaves_while_back_is_in_flight(self):
        network = network_on("abc")
        network.ask(ABC, 1)
        self.assertEqual(deliver_all(network, "ab", "bc", "cb", "ba", "ab"), ["ask", "ask", "yes", "yes", "go"])
        network.remove_leaf("b")
        self.assertEqual(network.in_flight("b", "a"), [("back", ABC, 1), BYE])
        self.assertEqual(network.in_flight("b", "c"), [("go", ABC, 1)])
        self.assertEqual(deliver_all(network, "ba", "ba", "bc"), ["back", "bye", "go"])
        self.assertEqual(network.member("a").answers(), [(ABC, 1, "done")])
        self.assertEqual(tree_at_rest(network), tree_of("ac"))

    def test_a_host_of_the_far_side_leaves_while_go_is_in_flight(self):
        network = network_on("abcd")
        network.ask(ABCD, 0)
        deliver_all(network, "ab", "bc", "cd", "dc", "cb", "ba")
        self.assertEqual(network.deliver("a", "b"), ("go", ABCD, 0))
        network.write("b", "x")
        network.remove_leaf("b")
        self.assertEqual(network.in_flight("b", "c"), [("go", ABCD, 0), message("b", "x"), BYE])
        settle(network)
        self.assertEqual(tree_at_rest(network), tree_of("ad cd"))
        for name in "acd":
            self.assertEqual(network.member(name).log(), [("b", "x")])

    def test_the_leaf_that_the_first_host_waits_for(self):
        network = Network(tree_of("ab ac"))
        network.ask(ABC, 1)
        network.remove_leaf("c")
        network.deliver("c", "a")
        self.assertEqual([network.member("a").queue(), network.member("a").links()], [[BYE], ["b", "c"]])
        self.assertEqual(deliver_all(network, "ab", "ba"), ["ask", "no"])
        self.assertEqual([network.member("a").queue(), network.member("a").links()], [[], ["b"]])
