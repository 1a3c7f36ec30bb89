"""Events as tuples: what `do` takes and returns, and which events a network remembers."""

from relinktree.errors import (
    Busy, EmptyChannel, InvalidEvent, InvalidName, InvalidRelink, InvalidWord, NameTaken, NotALeaf, NotLinked, TooMany,
    UnknownHost,
)
from relinktree.networks import Network
from relinktree.runs import settle
from tests.network_support import NetworkCase, any_run, network_on, state, whole
from tests.support import Impostor, NO_ITEMS, NO_NAMES

ABC = ("a", "b", "c")
WORDS = ("write", "ask", "deliver", "add")

# Values that look like events but are none, whatever the network is.
WRONG_EVENTS = [
    (), ("write",), ("write", "a"), ("write", "a", "x", "y"), ("ask",), ("ask", ABC), ("ask", (ABC, 1)),
    ("ask", ABC, 1, 1), ("ask", "a", "b", "c", 1), ("deliver",), ("deliver", "a"), ("deliver", "a", "b", "c"),
    ("deliver", ("a", "b")), ("add",), ("add", "d"), ("add", "d", "a", "a"), ("remove",), ("remove", "c", "b"),
    ("remove", "c", None), ["write", "a", "x"], ["remove", "c"], ("Write", "a", "x"), ("write ", "a", "x"),
    ("", "a", "x"), ("settle", "a", "x"), ("message", "a", "x"), ("leave", "c"), ("bye",), ("undo",), ("add_leaf", "d", "a"),
    (None, "a", "x"), (b"write", "a", "x"), (Impostor(), "a", "x"), (Impostor(), "c"), (["write"], "a", "x"),
    (0, "a", "x"), (True, "c"), "write a x", "remove", b"remove", ("remove c",), (("remove", "c"),), {"write": 3},
]


class Doing(NetworkCase):
    def same(self, event, call):
        """The event does what the method does, and returns the same."""
        one, other = network_on("abc"), network_on("abc")
        for network in (one, other):
            network.write("a", "x")
        self.assertEqual(one.do(event), call(other))
        self.assertEqual(whole(one), whole(other))
        self.assertEqual(one.events(), [("write", "a", "x"), event])
        self.assertTrue(all(type(part) is tuple for part in one.events()))

    def test_every_word(self):
        self.same(("write", "b", "y"), lambda network: network.write("b", "y"))
        self.same(("ask", ABC, 1), lambda network: network.ask(ABC, 1))
        self.same(("deliver", "a", "b"), lambda network: network.deliver("a", "b"))
        self.same(("add", "d", "c"), lambda network: network.add_leaf("d", at="c"))
        self.same(("remove", "c"), lambda network: network.remove_leaf("c"))

    def test_what_is_returned(self):
        network = network_on("abc")
        self.assertIsNone(network.do(("write", "a", "x")))
        self.assertIsNone(network.do(("ask", ABC, 0)))
        self.assertEqual(network.do(event=("deliver", "a", "b")), ("message", "a", "x", 0))
        self.assertIsNone(network.do(("add", "d", "b")))
        self.assertIsNone(network.do(("remove", "d")))

    def test_values_that_are_no_events(self):
        network = network_on("abc")
        network.write("a", "x")
        for value in WRONG_EVENTS + NO_ITEMS:
            # A tuple like ("ask", 0, None) is an event by its form, whatever its parts are.
            if not (isinstance(value, tuple) and len(value) == 3 and isinstance(value[0], str) and value[0] in WORDS):
                self.assert_refused(network, InvalidEvent, {"value": value}, network.do, value)

    def test_the_errors_of_the_methods(self):
        network = network_on("abc")
        network.ask(("c", "b", "a"), 1)
        for event, error, fields in [
            (("write", "z", None), UnknownHost, {"host": "z"}),
            (("write", "a", "X"), InvalidWord, {"value": "X"}),
            (("ask", ("z", "b", "c"), 0), UnknownHost, {"host": "z"}),
            (("ask", ("c", "b", "a"), 1), Busy, {"host": "c"}),
            (("ask", ("a", "c", "b"), 0), NotLinked, {"host": "a", "other": "c"}),
            (("deliver", "b", "a"), EmptyChannel, {"source": "b", "goal": "a"}),
            (("add", "D", "z"), InvalidName, {"value": "D"}),
            (("add", "a", "z"), NameTaken, {"value": "a"}),
            (("add", "d", "z"), UnknownHost, {"host": "z"}),
            (("remove", "z"), UnknownHost, {"host": "z"}),
            (("remove", "b"), NotALeaf, {"host": "b"}),
            (("remove", "c"), Busy, {"host": "c"}),
        ]:
            self.assert_refused(network, error, fields, network.do, event)

    def test_parts_of_any_kind(self):
        network = network_on("bcd")
        for value in NO_NAMES:
            self.assert_refused(network, UnknownHost, {"host": value}, network.do, ("write", value, "x"))
            self.assert_refused(network, EmptyChannel, {"source": value, "goal": "b"}, network.do, ("deliver", value, "b"))
            self.assert_refused(network, EmptyChannel, {"source": "b", "goal": value}, network.do, ("deliver", "b", value))
            self.assert_refused(network, InvalidName, {"value": value}, network.do, ("add", value, "b"))
            self.assert_refused(network, UnknownHost, {"host": value}, network.do, ("add", "x", value))
            self.assert_refused(network, UnknownHost, {"host": value}, network.do, ("remove", value))
            self.assert_error_with_pair(InvalidRelink, (value, 9), network.do, ("ask", value, 9))
            self.assert_error_with_pair(InvalidRelink, (ABC, "0"), network.do, ("ask", ABC, "0"))
        self.assertEqual(network.events(), [])


class Remembered(NetworkCase):
    def test_methods_do_and_runs_in_order(self):
        network = network_on("abc")
        network.write("a", "x")
        network.do(("write", "c", "y"))
        network.deliver("c", "b")
        network.add_leaf("d", at="a")
        network.do(("remove", "d"))
        network.ask(ABC, 1)
        expected = [
            ("write", "a", "x"), ("write", "c", "y"), ("deliver", "c", "b"), ("add", "d", "a"), ("remove", "d"),
            ("ask", ABC, 1),
        ]
        self.assertEqual(network.events(), expected)
        with self.assertRaises(TooMany):
            settle(network, most=3)
        expected += [("deliver", "a", "b"), ("deliver", "a", "b"), ("deliver", "b", "a")]
        self.assertEqual(network.events(), expected)
        count = settle(network)
        self.assertEqual(network.events()[:9], expected)
        self.assertEqual(len(network.events()), 9 + count)
        self.assertEqual({event[0] for event in network.events()[9:]}, {"deliver"})

    def test_events_that_raised_an_error_are_not_there(self):
        network = network_on("abc")
        for event in [("write", "z", "x"), ("write", "a", ""), ("deliver", "a", "b"), ("add", "a", "b"), ("remove", "b")]:
            with self.assertRaises((UnknownHost, InvalidWord, EmptyChannel, NameTaken, NotALeaf)):
                network.do(event)
        self.assertEqual(network.events(), [])

    def test_the_events_lead_to_an_equal_network(self):
        for seed in range(60):
            network = any_run(seed, ["write", "ask", "deliver", "deliver", "add", "remove"], lambda *_: None, to_rest=seed % 2)
            again = Network(network.first_tree())
            for event in network.events():
                again.do(event)
            self.assertTrue(again == network)
            self.assertEqual(state(again), state(network))
            self.assertEqual(again.events(), network.events())
