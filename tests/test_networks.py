"""Networks: how they begin, what each event does to their hosts and channels, their errors, copies and equality."""

from relinktree.channels import Channels
from relinktree.errors import Busy, EmptyChannel, InvalidRelink, InvalidWord, NotLinked, UnknownHost
from relinktree.hosts import Host
from relinktree.networks import Network
from relinktree.trees import Tree
from tests.network_support import NetworkCase, deliver_all, host_state, network_on, state, tree_of, unequal_relinks, whole
from tests.support import Impostor, NO_NAMES, OTHER_KINDS

NO_WORDS = OTHER_KINDS + ["", "A", "hi ", "hi\n", "a_b", "abcdefghijklm", "\u00e9", [], ["hi"], ("hi",), ()]
ABC = (("a", "b", "c"), 1)


def free_row(name, links, log=(), answers=()):
    return (name, list(links), list(log), None, "free", None, [], list(answers))


class Beginning(NetworkCase):
    def test_hosts_links_logs_and_channels(self):
        network = Network(tree_of("ab bc bd"))
        rows = [free_row("a", "b"), free_row("b", "acd"), free_row("c", "b"), free_row("d", "b")]
        self.assertEqual(state(network), (rows, {}, 4, True))
        self.assertEqual([network.hosts(), network.busy(), network.events()], [["a", "b", "c", "d"], [], []])
        self.assertEqual(network.in_flight("a", "b"), [])

    def test_one_host(self):
        network = Network(tree=Tree(["a"]))
        self.assertEqual(state(network), ([free_row("a", "")], {}, 1, True))
        self.assertEqual(len(network), 1)

    def test_first_tree(self):
        tree = tree_of("ab bc bd")
        network = Network(tree)
        self.assertEqual(network.first_tree(), tree)
        self.assertIs(type(network.first_tree()), Tree)
        network.ask(*ABC)
        deliver_all(network, "ab", "bc", "cb", "ba", "ab", "bc", "ba")
        network.add_leaf("e", at="a")
        network.remove_leaf("d")
        self.assertEqual(network.member("a").links(), ["b", "c", "e"])
        self.assertEqual(network.first_tree(), tree)


class Members(NetworkCase):
    def test_a_member_is_a_host(self):
        member = network_on("ab").member("a")
        self.assertIs(type(member), Host)
        self.assertEqual(member, Host("a", links=["b"]))

    def test_a_member_is_a_copy(self):
        network = network_on("abc")
        network.write("b", "hi")
        before = whole(network)
        member = network.member("b")
        member.write("more")
        member.ask(("b", "a", "c"), 0)
        member.add_link("x")
        self.assertEqual(whole(network), before)
        self.assertIsNot(network.member("b"), network.member("b"))

    def test_later_events_do_not_change_a_member_that_was_returned(self):
        network = network_on("abc")
        member = network.member("b")
        network.write("b", "hi")
        network.add_leaf("d", at="b")
        self.assertEqual(host_state(member), free_row("b", "ac"))

    def test_values_that_are_no_present_host(self):
        network = network_on("bcd")
        for value in NO_NAMES + ["a", "bc", "z"]:
            self.assert_refused(network, UnknownHost, {"host": value}, network.member, value)

    def test_a_host_that_has_left(self):
        network = network_on("abc")
        network.remove_leaf("c")
        self.assert_refused(network, UnknownHost, {"host": "c"}, network.member, name="c")


class Channelled(NetworkCase):
    def test_busy_and_in_flight(self):
        network = network_on("bac")
        network.write("a", "x")
        network.write("b", "y")
        network.write("a", "z")
        x, z = ("message", "a", "x", 0), ("message", "a", "z", 0)
        self.assertEqual(network.busy(), [("a", "b"), ("a", "c"), ("b", "a")])
        self.assertEqual(network.in_flight("a", "b"), [x, z])
        self.assertEqual(network.in_flight(goal="c", source="a"), [x, z])
        self.assertEqual(network.in_flight("b", "a"), [("message", "b", "y", 0)])
        self.assertEqual(network.in_flight("c", "a"), [])
        self.assertFalse(network.is_at_rest())

    def test_in_flight_for_any_values(self):
        network = network_on("ab")
        network.write("a", "x")
        for value in NO_NAMES + ["z"]:
            self.assertEqual(network.in_flight(value, "b"), [])
            self.assertEqual(network.in_flight("a", value), [])

    def test_at_rest_again(self):
        network = network_on("ab")
        network.write("a", "x")
        network.deliver("a", "b")
        self.assertEqual([network.is_at_rest(), network.busy(), network.in_flight("a", "b")], [True, [], []])


class Writing(NetworkCase):
    def test_a_free_host(self):
        network = Network(tree_of("ab bc bd"))
        self.assertIsNone(network.write("b", "hi"))
        item = ("message", "b", "hi", 0)
        rows = [free_row("a", "b"), free_row("b", "acd", [("b", "hi")]), free_row("c", "b"), free_row("d", "b")]
        self.assertEqual(state(network), (rows, {("b", name): [item] for name in "acd"}, 4, False))

    def test_hosts_of_a_relink(self):
        network = Network(tree_of("ab bc cx"))
        network.ask(*ABC)
        deliver_all(network, "ab", "bc", "cb", "ba")
        network.write("a", "one")
        network.write("c", "two")
        self.assertEqual(network.in_flight("a", "b"), [("go", *ABC), ("message", "a", "one", 0)])
        self.assertEqual(network.in_flight("a", "c"), [("message", "a", "one", 0)])
        self.assertEqual(network.in_flight("c", "a"), [("message", "c", "two", 0)])
        self.assertEqual(network.in_flight("c", "b"), [])
        self.assertEqual(network.in_flight("c", "x"), [("message", "c", "two", 0)])

    def test_a_turned_host_between_sends_bit_1(self):
        network = network_on("abcd")
        network.ask(("a", "b", "c", "d"), 0)
        deliver_all(network, "ab", "bc", "cd", "dc")
        network.write("c", "x")
        self.assertEqual(network.in_flight("c", "d"), [("message", "c", "x", 1)])
        self.assertEqual(network.in_flight("c", "b")[1:], [("message", "c", "x", 0)])

    def test_the_only_host(self):
        network = Network(Tree(["a"]))
        network.write(word="hi", host="a")
        self.assertEqual(state(network), ([free_row("a", "", [("a", "hi")])], {}, 1, True))

    def test_wrong_hosts(self):
        network = network_on("bc")
        for value in NO_NAMES + ["a", "z"]:
            self.assert_refused(network, UnknownHost, {"host": value}, network.write, value, "hi")
            self.assert_refused(network, UnknownHost, {"host": value}, network.write, value, None)

    def test_wrong_words(self):
        network = network_on("ab")
        for value in NO_WORDS:
            self.assert_refused(network, InvalidWord, {"value": value}, network.write, "a", value)


class Asking(NetworkCase):
    def test_the_first_host_is_reserved(self):
        network = network_on("abc")
        self.assertIsNone(network.ask(*ABC))
        first = ("a", ["b"], [], ABC, "reserved", "c", [], [])
        rows = [first, free_row("b", "ac"), free_row("c", "b")]
        self.assertEqual(state(network), (rows, {("a", "b"): [("ask", *ABC)]}, 3, False))

    def test_the_rest_of_the_path_need_not_fit(self):
        network = network_on("abc")
        network.ask(path=("a", "b", "zz", "c"), cut=2)
        self.assertEqual(network.in_flight("a", "b"), [("ask", ("a", "b", "zz", "c"), 2)])

    def test_no_relinks(self):
        network = network_on("abc")
        for path, cut in unequal_relinks():
            twin = network.copied()
            self.assert_error_with_pair(InvalidRelink, (path, cut), network.ask, path, cut)
            self.assertEqual(whole(network), whole(twin))
        for value in NO_NAMES:
            self.assert_error_with_pair(InvalidRelink, (value, 2), network.ask, value, 2)

    def test_the_order_of_the_errors(self):
        network = network_on("abc")
        network.ask(*ABC)
        self.assert_error_with_pair(InvalidRelink, (("z", "b", "c"), 2), network.ask, ("z", "b", "c"), 2)
        self.assert_refused(network, UnknownHost, {"host": "z"}, network.ask, ("z", "y", "c"), 0)
        self.assert_refused(network, Busy, {"host": "a"}, network.ask, ("a", "c", "b"), 0)
        self.assert_refused(network, Busy, {"host": "a"}, network.ask, *ABC)
        self.assert_refused(network, NotLinked, {"host": "c", "other": "a"}, network.ask, ("c", "a", "b"), 0)
        self.assert_refused(network, NotLinked, {"host": "c", "other": "z"}, network.ask, ("c", "z", "b"), 0)

    def test_a_host_that_has_left(self):
        network = network_on("abc")
        network.remove_leaf("a")
        self.assert_refused(network, UnknownHost, {"host": "a"}, network.ask, *ABC)


class Delivering(NetworkCase):
    def test_the_first_item_is_received_and_forwarded(self):
        network = network_on("abc")
        network.write("a", "x")
        network.write("a", "y")
        self.assertEqual(network.deliver("a", "b"), ("message", "a", "x", 0))
        x, y = ("message", "a", "x", 0), ("message", "a", "y", 0)
        rows = [
            free_row("a", "b", [("a", "x"), ("a", "y")]), free_row("b", "ac", [("a", "x")]), free_row("c", "b"),
        ]
        self.assertEqual(state(network), (rows, {("a", "b"): [y], ("b", "c"): [x]}, 3, False))
        self.assertEqual(network.deliver(goal="c", source="b"), x)
        self.assertEqual(network.busy(), [("a", "b")])

    def test_empty_channels(self):
        network = network_on("abc")
        network.write("a", "x")
        for source, goal in [("b", "a"), ("a", "c"), ("a", "a"), ("z", "b"), ("a", "z"), ("b", "c")]:
            fields = {"source": source, "goal": goal}
            self.assert_refused(network, EmptyChannel, fields, network.deliver, source, goal)
        for value in NO_NAMES:
            self.assert_refused(network, EmptyChannel, {"source": value, "goal": "b"}, network.deliver, value, "b")
            self.assert_refused(network, EmptyChannel, {"source": "a", "goal": value}, network.deliver, "a", value)


class Equality(NetworkCase):
    def test_equal_by_state(self):
        self.assertTrue(network_on("abc") == network_on("cba"))
        self.assertFalse(network_on("abc") != network_on("abc"))
        self.assertFalse(network_on("abc") == network_on("acb"))
        self.assertFalse(network_on("abc") == network_on("ab"))

    def test_what_hosts_and_channels_hold_counts(self):
        for event in [("write", "a", "x"), ("write", "b", "x"), ("ask", *ABC), ("add", "d", "a"), ("remove", "c")]:
            network = network_on("abc")
            network.do(event)
            self.assertFalse(network == network_on("abc"), event)
            twin = network_on("abc")
            twin.do(event)
            self.assertTrue(network == twin)
            network.deliver(*network.busy()[0]) if network.busy() else network.write("d", "x")
            self.assertFalse(network == twin, event)

    def test_the_order_of_the_events_does_not_count(self):
        one, other = network_on("ab"), network_on("ab")
        one.write("a", "x")
        one.write("b", "y")
        other.write("b", "y")
        other.write("a", "x")
        self.assertNotEqual(one.events(), other.events())
        self.assertTrue(one == other)

    def test_the_order_of_a_log_counts(self):
        one, other = network_on("ab"), network_on("ab")
        for network, words in [(one, "xy"), (other, "yx")]:
            network.write("a", words[0])
            network.write("b", words[1])
        self.assertFalse(one == other)

    def test_the_first_tree_does_not_count(self):
        one = Network(tree_of("ab bc"))
        other = Network(tree_of("ab ac"))
        one.ask(("a", "b", "c"), 1)
        other.ask(("b", "a", "c"), 0)
        for network in (one, other):
            while network.busy():
                network.deliver(*network.busy()[0])
        self.assertEqual([one.member("a").links(), other.member("c").links()], [["b", "c"], ["a", "b"]])
        # The answers differ, and they belong to the hosts.
        self.assertFalse(one == other)
        grown, given = Network(Tree(["a"])), Network(tree_of("ab"))
        grown.add_leaf("b", at="a")
        self.assertTrue(grown == given)
        self.assertNotEqual(grown.first_tree(), given.first_tree())

    def test_answers_count(self):
        network = network_on("ab")
        network.ask(("a", "b", "c"), 0)
        deliver_all(network, "ab", "ba")
        self.assertTrue(network.is_at_rest())
        self.assertFalse(network == network_on("ab"))

    def test_what_is_in_flight_counts(self):
        one, other = network_on("abc"), network_on("abc")
        one.write("c", "x")
        for network in (one, other):
            network.remove_leaf("c")
        self.assertEqual(state(one)[0], state(other)[0])
        self.assertFalse(one == other)
        one.deliver("c", "b")
        self.assertEqual(one.in_flight("c", "b"), other.in_flight("c", "b"))
        self.assertFalse(one == other)

    def test_used_names_count(self):
        network = network_on("ab")
        network.add_leaf("c", at="a")
        network.remove_leaf("c")
        network.deliver("c", "a")
        fresh = network_on("ab")
        self.assertEqual(state(network), state(fresh))
        self.assertFalse(network == fresh)
        self.assertTrue(network != fresh)
        fresh.add_leaf("c", at="b")
        fresh.remove_leaf("c")
        fresh.deliver("c", "b")
        self.assertTrue(network == fresh)

    def test_no_other_value_is_equal(self):
        network = network_on("ab")
        for value in NO_NAMES + [network_on("ab").first_tree(), network.hosts(), Channels(), network.member("a")]:
            if not isinstance(value, Impostor):
                self.assertFalse(network == value)
                self.assertTrue(network != value)


class Copies(NetworkCase):
    def setUp(self):
        self.network = network_on("abcd")
        self.network.write("b", "x")
        self.network.ask(("a", "b", "c"), 1)
        self.network.deliver("a", "b")
        self.network.deliver("b", "c")
        self.network.remove_leaf("d")

    def test_copies_are_equal(self):
        twin = self.network.copied()
        self.assertIs(type(twin), Network)
        self.assertIsNot(twin, self.network)
        self.assertTrue(twin == self.network)
        self.assertEqual(whole(twin), whole(self.network))
        self.assertEqual(len(twin.events()), 5)
        self.assertEqual(twin.first_tree(), tree_of("ab bc cd"))

    def changes(self, network):
        """Every kind of event, one after another."""
        yield network.write("a", "more")
        yield network.deliver("d", "c")
        yield network.add_leaf("e", at="b")
        yield network.ask(("e", "b", "c"), 0)
        yield network.deliver(*network.busy()[0])
        network.add_leaf("f", at="a")
        yield network.remove_leaf("f")

    def test_changes_of_the_copy(self):
        twin = self.network.copied()
        before = whole(self.network)
        for _ in self.changes(twin):
            self.assertEqual(whole(self.network), before)
            self.assertFalse(self.network == twin)

    def test_changes_of_the_original(self):
        twin = self.network.copied()
        before = whole(twin)
        for _ in self.changes(self.network):
            self.assertEqual(whole(twin), before)
        self.assertEqual(whole(twin.copied()), before)

    def test_used_names_are_copied(self):
        twin = self.network.copied()
        twin.add_leaf("e", at="a")
        self.network.add_leaf("e", at="a")
        self.assertTrue(twin == self.network)

    def test_two_networks_of_one_tree(self):
        tree = tree_of("ab bc")
        one, other = Network(tree), Network(tree)
        for event in [("write", "a", "x"), ("add", "d", "a"), ("ask", *ABC), ("deliver", "a", "b"), ("remove", "c")]:
            one.do(event)
        self.assertEqual(whole(other), whole(network_on("abc")))
        self.assertEqual(tree, tree_of("ab bc"))


class ReturnedValues(NetworkCase):
    def test_changes_of_returned_lists_have_no_effect(self):
        network = network_on("abc")
        network.write("a", "x")
        before = whole(network)
        for values in [network.hosts(), network.busy(), network.in_flight("a", "b"), network.events()]:
            values.append("more")
            values[0] = None
            values.clear()
        for values in [network.first_tree().hosts(), network.first_tree().links(), network.member("b").links()]:
            values.clear()
        self.assertEqual(whole(network), before)

    def test_changes_of_returned_trees_and_of_the_argument_have_no_effect(self):
        tree = tree_of("ab bc")
        network = Network(tree)
        before = whole(network)
        for value in [network.first_tree(), tree]:
            for part in vars(value).values():
                part.clear()
        self.assertEqual(whole(network), before)
        self.assertEqual(whole(network.copied()), before)

    def test_repeated_queries(self):
        network = network_on("abc")
        network.write("b", "x")
        network.ask(*ABC)
        self.assertEqual(whole(network), whole(network))
