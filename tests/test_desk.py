"""The desk: every command with its answer, wrong commands, errors, undo and the log."""

from relinktree.desk import Desk
from relinktree.errors import (
    Busy, EmptyChannel, InvalidCommand, InvalidTree, NameTaken, NoNetwork, NotALeaf, NotLinked, TooMany, UnknownHost,
)
from relinktree.networks import Network
from relinktree.runs import settle
from relinktree.trees import Tree
from tests.network_support import network_on, tree_of, whole
from tests.support import NO_NAMES, Case, Impostor

NO_STRINGS = [value for value in NO_NAMES if not isinstance(value, str)]


def desk_with(*commands):
    desk = Desk()
    for command in commands:
        desk.execute(command)
    return desk


def desk_on(names, *commands):
    """A desk with a network on a line of hosts, after the commands."""
    links = ",".join([f"{one}-{other}" for one, other in zip(names, names[1:])])
    return desk_with(f"tree {','.join(names)} {links or '-'}", *commands)


class DeskCase(Case):
    def check(self, desk, *rows):
        """Each command has this answer, and is logged with it."""
        for command, answer in rows:
            before = desk.log()
            self.assertEqual(desk.execute(command), answer, command)
            self.assertEqual(desk.log(), before + [(command, answer)])

    def assert_refused(self, desk, error, fields, command):
        """The command raises this error and changes nothing but the log."""
        before = desk.log()
        network = whole(desk.network())
        self.assert_error(error, fields, desk.execute, command)
        self.assertEqual(whole(desk.network()), network)
        self.assertEqual(desk.log(), before + [(command if isinstance(command, str) else None, None)])


class Starting(DeskCase):
    def test_a_new_network(self):
        desk = Desk()
        self.check(desk, ("tree a,b,c a-b,b-c", "ok"), ("hosts", "a b c"), ("links b", "a c"), ("rest", "yes"))
        self.assertEqual(whole(desk.network()), whole(network_on("abc")))
        self.assertEqual(desk.network().first_tree(), tree_of("ab bc"))

    def test_names_in_any_order(self):
        desk = desk_with("tree c,zzzzzzzz,a a-zzzzzzzz,c-a")
        self.assertEqual(desk.network().first_tree(), Tree(["a", "c", "zzzzzzzz"], [("a", "c"), ("a", "zzzzzzzz")]))

    def test_one_host(self):
        desk = Desk()
        self.check(desk, ("tree a -", "ok"), ("hosts", "a"), ("links a", "-"), ("settle", "0"), ("rest", "yes"))
        self.assertEqual(desk.network(), Network(Tree(["a"])))

    def test_again(self):
        desk = desk_on("ab", "write a x", "tree c,d c-d")
        self.assertEqual(whole(desk.network()), whole(Network(tree_of("cd"))))
        self.check(desk, ("hosts", "c d"), ("undo", "nothing"), ("add a c", "ok"), ("hosts", "a c d"))

    def test_hosts_and_links_that_are_no_tree(self):
        desk = desk_on("ab", "write a x")
        for command, reason, value in [
            ("tree a,b -", "connected", "b"), ("tree c,a,b a-b", "connected", "c"), ("tree a,a -", "duplicate", "a"),
            ("tree a,b,a a-b", "duplicate", "a"), ("tree a,b a-c", "link", ("a", "c")), ("tree a a-a", "link", ("a", "a")),
            ("tree a,b a-b,b-a", "duplicate", ("b", "a")), ("tree a,b a-b,a-b", "duplicate", ("a", "b")),
            ("tree a,b,c a-b,b-c,c-a", "cycle", ("c", "a")), ("tree a,b,c,d a-b,c-d", "connected", "c"),
        ]:
            self.assert_refused(desk, InvalidTree, {"reason": reason, "value": value}, command)
        # What was done before can still be undone.
        self.check(desk, ("undo", "ok"), ("log a", "-"))

    def test_no_tree_without_a_network(self):
        desk = Desk()
        self.assert_error(InvalidTree, {"reason": "connected", "value": "b"}, desk.execute, "tree a,b -")
        self.assert_error(NoNetwork, {}, desk.network)
        self.assertEqual(desk.log(), [("tree a,b -", None)])


class Events(DeskCase):
    def test_every_event(self):
        desk = desk_on("abc")
        self.check(
            desk, ("write a hi", "ok"), ("ask c,b,a 1", "ok"), ("deliver a b", "message a hi 0"), ("add d a", "ok"),
            ("remove d", "ok"), ("deliver d a", "bye"), ("deliver c b", "ask c,b,a 1"), ("deliver b a", "ask c,b,a 1"),
            ("deliver a b", "yes c,b,a 1"),
        )
        events = [
            ("write", "a", "hi"), ("ask", ("c", "b", "a"), 1), ("deliver", "a", "b"), ("add", "d", "a"), ("remove", "d"),
            ("deliver", "d", "a"), ("deliver", "c", "b"), ("deliver", "b", "a"), ("deliver", "a", "b"),
        ]
        self.assertEqual(desk.network().events(), events)

    def test_the_errors_of_events(self):
        desk = desk_on("abc", "ask c,b,a 1")
        for command, error, fields in [
            ("write z x", UnknownHost, {"host": "z"}), ("ask z,a,b 0", UnknownHost, {"host": "z"}),
            ("ask c,a,b 0", Busy, {"host": "c"}), ("ask a,c,b 0", NotLinked, {"host": "a", "other": "c"}),
            ("deliver a b", EmptyChannel, {"source": "a", "goal": "b"}), ("deliver z z", EmptyChannel, {"source": "z", "goal": "z"}),
            ("add a z", NameTaken, {"value": "a"}), ("add d z", UnknownHost, {"host": "z"}), ("remove z", UnknownHost, {"host": "z"}),
            ("remove c", Busy, {"host": "c"}), ("remove b", NotALeaf, {"host": "b"}),
        ]:
            self.assert_refused(desk, error, fields, command)
        self.check(desk, ("undo", "ok"), ("undo", "nothing"))

    def test_the_only_host(self):
        desk = desk_with("tree a -")
        self.assert_refused(desk, NotALeaf, {"host": "a"}, "remove a")


class Settling(DeskCase):
    def test_without_numbers(self):
        desk = desk_on("abc", "write a hi")
        self.check(desk, ("settle", "2"), ("rest", "yes"), ("log c", "a:hi"), ("settle", "0"))

    def test_numbers_choose(self):
        network = Network(tree_of("ab ac ad"))
        for name in "abcd":
            network.write(name, "w" + name)
        desk = desk_with("tree a,b,c,d a-b,a-c,a-d", *[f"write {name} w{name}" for name in "abcd"])
        count = settle(network, choices=[5, 0, 12, 3, 1000000000000])
        self.check(desk, ("settle 5 0 12 3 1000000000000", str(count)))
        self.assertEqual(whole(desk.network()), whole(network))

    def test_deliveries_are_events(self):
        desk = desk_on("abc", "write b x", "settle 1")
        self.assertEqual(desk.network().events(), [("write", "b", "x"), ("deliver", "b", "c"), ("deliver", "b", "a")])

    def test_too_many_deliveries(self):
        desk = desk_on("ab")
        for _ in range(2001):
            desk.execute("write a x")
        self.assert_refused(desk, TooMany, {"limit": 2000}, "settle")
        self.assert_refused(desk, TooMany, {"limit": 2000}, "settle 0 1 2")
        self.check(desk, ("deliver a b", "message a x 0"), ("settle", "2000"), ("undo", "ok"), ("undo", "ok"), ("log b", "-"))


class Undoing(DeskCase):
    def test_nothing(self):
        desk = desk_on("ab")
        self.check(desk, ("undo", "nothing"), ("undo", "nothing"))
        self.assertEqual(whole(desk.network()), whole(network_on("ab")))

    def test_events_one_by_one(self):
        desk = desk_on("abc")
        states = []
        commands = ["write a x", "ask a,b,c 1", "deliver a b", "add d a", "write d y", "remove d", "deliver d a", "settle 1 2 3"]
        for command in commands:
            states.append(whole(desk.network()))
            desk.execute(command)
        for state in states[::-1]:
            self.check(desk, ("undo", "ok"))
            self.assertEqual(whole(desk.network()), state)
        self.check(desk, ("undo", "nothing"))

    def test_a_settle_is_undone_as_a_whole(self):
        desk = desk_on("abcd", "write a x", "ask a,b,c,d 1")
        before = whole(desk.network())
        desk.execute("settle")
        self.assertGreater(len(desk.network().events()), 10)
        self.check(desk, ("undo", "ok"), ("rest", "no"))
        self.assertEqual(whole(desk.network()), before)

    def test_a_settle_without_deliveries_counts_too(self):
        desk = desk_on("ab", "write a x", "settle", "settle")
        self.check(desk, ("undo", "ok"), ("log b", "a:x"), ("undo", "ok"), ("log b", "-"), ("undo", "ok"), ("undo", "nothing"))

    def test_queries_undo_and_errors_do_not_count(self):
        desk = desk_on("ab", "write a x", "write a y")
        self.check(desk, ("undo", "ok"), ("log a", "a:x"), ("hosts", "a b"), ("rest", "no"), ("why a", "-"), ("flight a b", "message a x 0"))
        self.assert_refused(desk, UnknownHost, {"host": "z"}, "write z x")
        self.assert_refused(desk, InvalidCommand, {"value": "write"}, "write")
        self.check(desk, ("undo", "ok"), ("log a", "-"), ("undo", "nothing"))

    def test_after_an_undo_something_else_is_done(self):
        desk = desk_on("ab", "write a x", "undo", "write b y", "add c b")
        self.check(desk, ("undo", "ok"), ("hosts", "a b"), ("log b", "b:y"), ("undo", "ok"), ("log b", "-"), ("undo", "nothing"))
        # A name whose use was undone was never used.
        self.check(desk, ("add c a", "ok"), ("hosts", "a b c"))

    def test_not_over_a_new_start(self):
        desk = desk_on("ab", "write a x", "tree a,b a-b")
        self.check(desk, ("undo", "nothing"), ("log a", "-"), ("write b z", "ok"), ("undo", "ok"), ("undo", "nothing"))
        self.assertEqual(whole(desk.network()), whole(network_on("ab")))

    def test_the_log_is_not_undone(self):
        desk = desk_on("ab", "write a x", "undo")
        self.assertEqual(desk.log(), [("tree a,b a-b", "ok"), ("write a x", "ok"), ("undo", "ok")])


class Queries(DeskCase):
    def test_log(self):
        desk = desk_on("ab", "write a x", "write b y2", "write a x", "settle")
        self.check(desk, ("log a", "a:x a:x b:y2"), ("log b", "b:y2 a:x a:x"))
        self.check(desk_on("ab"), ("log a", "-"))

    def test_links_and_hosts(self):
        desk = desk_with("tree c,b,a,d b-a,b-d,c-b")
        self.check(desk, ("links b", "a c d"), ("links a", "b"), ("hosts", "a b c d"))
        self.check(desk, ("remove d", "ok"), ("hosts", "a b c"), ("links b", "a c d"), ("settle", "1"), ("links b", "a c"))
        self.check(desk_with("tree a -"), ("links a", "-"), ("hosts", "a"))

    def test_phase(self):
        desk = desk_on("abcd", "ask a,b,c,d 1")
        self.check(desk, ("phase a", "reserved a,b,c,d 1"), ("phase b", "free"), ("deliver a b", "ask a,b,c,d 1"))
        self.check(desk, ("phase b", "reserved a,b,c,d 1"), ("deliver b c", "ask a,b,c,d 1"), ("deliver c d", "ask a,b,c,d 1"))
        self.check(desk, ("phase d", "turned a,b,c,d 1"), ("phase c", "reserved a,b,c,d 1"))
        self.check(desk, ("deliver d c", "yes a,b,c,d 1"), ("phase c", "turned a,b,c,d 1"), ("settle", "6"), ("phase a", "free"))

    def test_flight(self):
        desk = desk_on("abc", "write a x", "ask a,b,c 0", "write a y")
        self.check(desk, ("flight a b", "message a x 0; ask a,b,c 0; message a y 0"), ("flight b a", "-"), ("flight b c", "-"))
        self.check(desk, ("flight a a", "-"), ("flight y z", "-"), ("flight a zzzzzzzz", "-"))

    def test_flight_of_a_host_that_has_left(self):
        desk = desk_on("abc", "write c x", "write b y", "remove c")
        self.check(desk, ("flight c b", "message c x 0; bye"), ("flight b c", "-"), ("flight b a", "message b y 0"))

    def test_queue(self):
        desk = desk_with("tree a,b,c a-b,a-c", "ask a,b,c 0", "write c x", "write c y", "remove c", "deliver c a")
        self.check(desk, ("queue a", "message c x 0"), ("deliver c a", "message c y 0"), ("deliver c a", "bye"))
        self.check(desk, ("queue a", "message c x 0; message c y 0; bye"), ("queue b", "-"), ("settle", "4"), ("queue a", "-"))

    def test_why(self):
        desk = desk_on("abc", "write a x", "ask a,b,c 1")
        self.check(desk, ("why a", "a ask a b 1"), ("why b", "-"), ("why c", "-"))
        desk = desk_with("tree a,b,c,x a-b,b-c,c-x", "ask a,b,c 0", "deliver a b", "deliver b c", "deliver c b", "deliver b a")
        self.check(desk, ("why c", "c go a b 0"), ("ask a,c,x 1", "ok"), ("deliver a c", "ask a,c,x 1"))
        self.check(desk, ("why a", "a ask a c -1; c go a b 0"), ("queue c", "ask a,c,x 1"))

    def test_rest(self):
        desk = desk_on("ab")
        self.check(desk, ("rest", "yes"), ("write a x", "ok"), ("rest", "no"), ("deliver a b", "message a x 0"), ("rest", "yes"))

    def test_hosts_that_are_not_present(self):
        desk = desk_on("abc", "remove c")
        for word in ["log", "links", "phase", "queue", "why"]:
            for name in ["c", "z", "abcdefgh"]:
                self.assert_refused(desk, UnknownHost, {"host": name}, f"{word} {name}")


# Commands that are of no known form, whatever the network is.
WRONG_COMMANDS = [
    "", " ", "  ", "nothing", "-", "ok", "tree", "tree a", "tree a - -", "tree a b", "tree a a,b", "tree - -", "tree a,b a", "tree a,b a-",
    "tree a,b -b", "tree a,b a-b-a", "tree a,b a-b,", "tree a,b ,a-b", "tree a,b, a-b", "tree ,a,b a-b", "tree a,,b a-b", "tree A -",
    "tree a1 -", "tree abcdefghi -", "tree a,b a-B", "tree a,b a-1", "tree a,b a_b", "tree a, b a-b", "tree a,b a-b ", " tree a -", "tree  a -",
    "tree a  -", "Tree a -", "tree a --", "tree a,b a--b", "tree a,b a-b,-", "tree a b a-b", "tree a\n-", "tree a -\n", "tree a,b a-b;b-a",
    "write", "write a", "write a x y", "write a X", "write A x", "write a x ", " write a x", "write  a x", "write a  x", "write a abcdefghijklm",
    "write abcdefghi x", "write a,b x", "Write a x", "write a x\n", "ask", "ask a,b,c", "ask a,b,c 2", "ask a,b,c -1", "ask a,b,c 01",
    "ask a,b,c +0", "ask a,b 0", "ask a,b,a 0", "ask a,b,c 0 0", "ask a b c 0", "ask a,b,c x", "ask a,B,c 0", "ask a,b,c  0", "deliver",
    "deliver a", "deliver a b c", "deliver a 1", "deliver a,b", "deliver a-b", "deliver a b ", "add", "add d", "add d a a", "add 1 a", "add d 1",
    "remove", "remove c b", "remove 1", "remove c ", "leave c", "settle ", "settle x", "settle -1", "settle +1", "settle 01", "settle 00",
    "settle 1 ", "settle  1", "settle 1  2", "settle 1,2", "settle 1 x", "settle 1.0", "settle 0x1", "settle 1_0", "Settle", "settle 1 -",
    "settle \n", "settle 1\n", "undo 1", "undo ", "undo a", " undo", "Undo", "log", "log ", "log a b", "log A", "log a ", "log  a", "log abcdefghi",
    "log 1", "logs a", "links", "links a b", "links 1", "link a", "hosts a", "hosts ", "host", "Hosts", "phase", "phase a b", "phase 1", "phase ",
    "flight", "flight a", "flight a b c", "flight a 1", "flight 1 a", "flight A b", "flight a,b", "flight a abcdefghi", "flight a b ", "flight a  b",
    "queue", "queue a b", "queue 1", "queue ", "why", "why a b", "why 1", "why ", "rest ", "rest a", "rest\n", "\nrest", "Rest", "REST", "message a x 0",
    "bye", "events", "host a", "link a b", "execute rest", "network", "rest; rest", "rest rest", "log a; log b", "settle; undo",
]


class Wrong(DeskCase):
    def test_values_that_are_no_commands(self):
        desk = desk_on("abc", "write a x")
        for command in WRONG_COMMANDS:
            self.assert_refused(desk, InvalidCommand, {"value": command}, command)
        self.check(desk, ("undo", "ok"), ("undo", "nothing"))

    def test_values_that_are_no_strings(self):
        desk = desk_on("abc")
        for value in NO_STRINGS + [b"rest", ["rest"], ("rest",), ("write", "a", "x"), Impostor()]:
            self.assert_refused(desk, InvalidCommand, {"value": value}, value)

    def test_without_a_network(self):
        desk = Desk()
        for command in WRONG_COMMANDS + NO_STRINGS:
            self.assert_error(InvalidCommand, {"value": command}, desk.execute, command)
        self.assertEqual(len(desk.log()), len(WRONG_COMMANDS + NO_STRINGS))
        right = [
            "write a x", "ask a,b,c 0", "deliver a b", "add a b", "remove a", "settle", "settle 1 2", "undo", "log a", "links a", "hosts",
            "phase a", "flight a b", "flight a a", "queue a", "why a", "rest",
        ]
        for command in right:
            self.assert_error(NoNetwork, {}, desk.execute, command)
        self.assertEqual(desk.log()[-len(right):], [(command, None) for command in right])
        self.assert_error(NoNetwork, {}, desk.network)
        self.check(desk, ("tree a -", "ok"), ("undo", "nothing"), ("rest", "yes"))


class Logged(DeskCase):
    def test_commands_and_answers(self):
        desk = desk_on("ab", "write a x")
        for value in [None, "nothing", 5, "write z x", ["rest"]]:
            with self.assertRaises((InvalidCommand, UnknownHost)):
                desk.execute(value)
        self.assertEqual(desk.execute(command="settle"), "1")
        rows = [("tree a,b a-b", "ok"), ("write a x", "ok"), (None, None), ("nothing", None), (None, None), ("write z x", None)]
        self.assertEqual(desk.log(), rows + [(None, None), ("settle", "1")])
        self.assertEqual(desk.log(), desk.log())
        self.assertTrue(all(type(row) is tuple for row in desk.log()))

    def test_nothing_at_first(self):
        self.assertEqual(Desk().log(), [])

    def test_queries_of_the_desk_are_not_logged(self):
        desk = Desk()
        self.assert_error(NoNetwork, {}, desk.network)
        desk.execute("tree a -")
        desk.network()
        desk.log()
        self.assertEqual(desk.log(), [("tree a -", "ok")])


class Independent(DeskCase):
    def test_two_desks_side_by_side(self):
        one, other = Desk(), Desk()
        one.execute("tree a,b a-b")
        self.assert_error(NoNetwork, {}, other.execute, "rest")
        other.execute("tree a,b a-b")
        one.execute("write a x")
        self.check(other, ("log a", "-"), ("undo", "nothing"), ("rest", "yes"))
        self.check(one, ("log a", "a:x"), ("undo", "ok"))
        self.assertEqual(len(one.log()), 4)

    def test_a_returned_network_is_a_copy(self):
        desk = desk_on("ab", "write a x")
        network = desk.network()
        before = whole(network)
        network.write("b", "y")
        network.add_leaf("c", at="a")
        settle(network)
        self.assertEqual(whole(desk.network()), before)
        self.check(desk, ("hosts", "a b"), ("log b", "-"), ("undo", "ok"))
        self.assertEqual(network.hosts(), ["a", "b", "c"])

    def test_a_returned_network_stays_as_it_is(self):
        desk = desk_on("ab")
        network = desk.network()
        desk.execute("write a x")
        self.assertEqual(whole(network), whole(network_on("ab")))

    def test_a_returned_log_is_a_copy(self):
        desk = desk_on("ab")
        desk.log().clear()
        desk.log().append(None)
        self.assertEqual(desk.log(), [("tree a,b a-b", "ok")])
