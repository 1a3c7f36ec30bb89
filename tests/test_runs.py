"""Runs: which channel a step delivers, the limit, the errors, and the tree at rest."""

from relinktree.errors import InvalidChoice, NotAtRest, TooMany
from relinktree.networks import Network
from relinktree.runs import settle, tree_at_rest
from relinktree.trees import Tree
from tests.network_support import NO_LISTS, NetworkCase, any_run, network_on, state, tree_of
from tests.support import NO_ITEMS, Impostor, deep_list

ABC = ("a", "b", "c")
# Values of which none is an integer from 0 on.
NO_COUNTS = [value for value in NO_ITEMS if isinstance(value, bool) or not isinstance(value, int)] + [-1, -10 ** 29, "0", "1"]


def star_that_writes():
    """Four channels are busy: ab, ac, ad and then ba."""
    network = Network(tree_of("ab ac ad"))
    network.write("a", "x")
    network.write("b", "y")
    return network


def deliveries(network):
    return ["".join(event[1:]) for event in network.events() if event[0] == "deliver"]


class Choices(NetworkCase):
    def test_the_first_channel_without_numbers(self):
        network = star_that_writes()
        self.assertEqual(settle(network), 6)
        self.assertEqual(deliveries(network), ["ab", "ac", "ad", "ba", "ac", "ad"])
        self.assertTrue(network.is_at_rest())

    def test_a_number_is_an_index(self):
        network = star_that_writes()
        self.assertEqual(settle(network, choices=[3, 4, 2, 1, 0, 0]), 6)
        # After "ba" the channels are ab, ac (two items) and ad (two items): 4 modulo 3 is 1.
        self.assertEqual(deliveries(network), ["ba", "ac", "ad", "ac", "ab", "ad"])

    def test_numbers_greater_than_the_number_of_channels(self):
        for number, first in [(4, "ab"), (5, "ac"), (7, "ba"), (10 ** 29, "ab"), (10 ** 29 + 3, "ba"), (400, "ab"), (6, "ad")]:
            network = star_that_writes()
            settle(network, choices=(number,))
            self.assertEqual(deliveries(network)[0], first)

    def test_the_first_channel_when_the_numbers_are_used_up(self):
        network = star_that_writes()
        settle(network, choices=[3, 2])
        self.assertEqual(deliveries(network), ["ba", "ad", "ab", "ac", "ac", "ad"])

    def test_more_numbers_than_deliveries(self):
        network = star_that_writes()
        self.assertEqual(settle(network, choices=[0] * 100), 6)
        self.assertEqual(deliveries(network), ["ab", "ac", "ad", "ba", "ac", "ad"])

    def test_sorted_by_source_then_by_goal(self):
        network = Network(tree_of("bc ab bd"))
        for name in "dcba":
            network.write(name, "w" + name)
        self.assertEqual(network.busy(), [("a", "b"), ("b", "a"), ("b", "c"), ("b", "d"), ("c", "b"), ("d", "b")])
        settle(network, choices=[5, 4, 3])
        self.assertEqual(deliveries(network)[:4], ["db", "cb", "bd", "ab"])

    def test_items_of_a_host_that_has_left(self):
        network = network_on("abc")
        network.remove_leaf("c")
        network.write("a", "x")
        self.assertEqual(settle(network, choices=[1]), 2)
        self.assertEqual(deliveries(network), ["cb", "ab"])

    def test_at_rest_nothing_is_delivered(self):
        network = network_on("abc")
        self.assertEqual(settle(network, choices=[1, 2], most=0), 0)
        self.assertEqual(network.events(), [])

    def test_choices_are_not_changed(self):
        choices = [3, 1]
        settle(star_that_writes(), choices=choices)
        self.assertEqual(choices, [3, 1])

    def test_each_delivery_is_the_one_that_the_numbers_choose(self):
        for seed in range(30):
            one = any_run(seed, ["write", "ask", "deliver"], lambda *_: None, count=20, to_rest=False)
            other = one.copied()
            numbers = [(seed * 7 + step * step) % 23 for step in range(40)]
            count = settle(one, choices=numbers)
            for number in numbers + [0] * 1000:
                if other.busy():
                    other.deliver(*other.busy()[number % len(other.busy())])
                    count -= 1
            self.assertEqual(count, 0)
            self.assertEqual(one.events(), other.events())
            self.assertTrue(one == other)


class Limits(NetworkCase):
    def test_exactly_reached(self):
        network = star_that_writes()
        self.assertEqual(settle(network, most=6), 6)
        self.assertTrue(network.is_at_rest())

    def test_passed_and_what_was_delivered_stays_done(self):
        for most in range(6):
            network = star_that_writes()
            self.assert_error(TooMany, {"limit": most}, settle, network, choices=[3], most=most)
            self.assertEqual(deliveries(network), ["ba", "ab", "ac", "ac", "ad"][:most])
            self.assertFalse(network.is_at_rest())
            again = star_that_writes()
            for pair in ["ba", "ab", "ac", "ac", "ad"][:most]:
                again.deliver(*pair)
            self.assertEqual(state(network), state(again))
            self.assertEqual(settle(network), 6 - most)

    def test_2000_if_nothing_is_said(self):
        for count in (2000, 2001):
            network = network_on("ab")
            for _ in range(count):
                network.write("a", "x")
            if count == 2000:
                self.assertEqual(settle(network), 2000)
            else:
                self.assert_error(TooMany, {"limit": 2000}, settle, network)
                self.assertEqual(len(network.member("b").log()), 2000)
                self.assertEqual(settle(network), 1)


class Errors(NetworkCase):
    def test_choices_that_are_no_list_or_tuple(self):
        network = star_that_writes()
        for value in NO_LISTS + [0, 1, "0", b"\x00", {0: 0}, range(3), {1}]:
            self.assert_refused(network, InvalidChoice, {"value": value}, settle, network, choices=value)

    def test_numbers_of_any_kind(self):
        network = star_that_writes()
        for value in NO_COUNTS + [True, False, deep_list(), Impostor()]:
            for choices in ([value], (value,), [0, 1, value], (value, 0)):
                self.assert_refused(network, InvalidChoice, {"value": choices}, settle, network, choices=choices)

    def test_limits_of_any_kind(self):
        network = star_that_writes()
        for value in NO_COUNTS + [True, False]:
            self.assert_refused(network, InvalidChoice, {"value": value}, settle, network, most=value)
            self.assert_refused(network, InvalidChoice, {"value": value}, settle, network, choices=[0], most=value)

    def test_the_order_of_the_errors(self):
        network = star_that_writes()
        self.assert_refused(network, InvalidChoice, {"value": [True]}, settle, network, choices=[True], most=None)
        self.assert_refused(network, InvalidChoice, {"value": -5}, settle, network, choices=[1], most=-5)
        self.assert_refused(network, InvalidChoice, {"value": [-1]}, settle, network, most=0, choices=[-1])
        self.assert_refused(network, TooMany, {"limit": 0}, settle, network, choices=[1], most=0)
        self.assertEqual(settle(most=6, choices=(), network=network), 6)

    def test_errors_also_at_rest(self):
        network = network_on("ab")
        self.assert_refused(network, InvalidChoice, {"value": None}, settle, network, choices=None)
        self.assert_refused(network, InvalidChoice, {"value": False}, settle, network, most=False)

    def test_by_name_only(self):
        with self.assertRaises(TypeError):
            settle(network_on("ab"), [0])


class TreeAtRest(NetworkCase):
    def test_at_rest(self):
        tree = tree_of("ab bc bd")
        network = Network(tree)
        self.assertEqual(tree_at_rest(network), tree)
        self.assertIs(type(tree_at_rest(network)), Tree)
        network.ask(ABC, 1)
        settle(network)
        self.assertEqual(tree_at_rest(network=network), tree_of("ab ac bd"))
        network.add_leaf("e", at="d")
        self.assertEqual(tree_at_rest(network), tree_of("ab ac bd de"))
        network.remove_leaf("c")
        settle(network)
        self.assertEqual(tree_at_rest(network), tree_of("ab bd de"))

    def test_one_host(self):
        self.assertEqual(tree_at_rest(Network(Tree(["a"]))), Tree(["a"]))

    def test_not_at_rest(self):
        network = star_that_writes()
        channels = [("a", "b"), ("a", "c"), ("a", "d"), ("b", "a")]
        self.assert_refused(network, NotAtRest, {"channels": channels}, tree_at_rest, network)
        network.deliver("a", "b")
        self.assert_refused(network, NotAtRest, {"channels": channels[1:]}, tree_at_rest, network)

    def test_not_at_rest_while_a_bye_is_in_flight(self):
        network = network_on("ab")
        network.remove_leaf("b")
        self.assert_refused(network, NotAtRest, {"channels": [("b", "a")]}, tree_at_rest, network)

    def test_the_list_of_channels_belongs_to_the_caller(self):
        network = star_that_writes()
        with self.assertRaises(NotAtRest) as caught:
            tree_at_rest(network)
        caught.exception.channels.clear()
        self.assertEqual(len(network.busy()), 4)
