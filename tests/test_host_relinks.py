"""What a host does with every kind of item: messages, control items at every place of the path, and byes."""

import itertools

from relinktree.hosts import Host
from tests.support import Case, World, host_at, reserved_host, turned_host

PATH = ("a", "b", "c", "d", "e")


def item(kind, cut, path=PATH):
    return (kind, path, cut)


class Messages(Case):
    def check(self, host, source, bit, expected):
        """The host logs the message and forwards it with these bits; its part in the relink stays."""
        before = [host.links(), host.relink(), host.phase(), host.waits_for(), host.queue(), host.answers()]
        sends = host.receive(source, ("message", "q", "hi", bit))
        self.assertEqual(sends, [(goal, ("message", "q", "hi", sent)) for goal, sent in expected])
        self.assertEqual(host.log(), [("q", "hi")])
        after = [host.links(), host.relink(), host.phase(), host.waits_for(), host.queue(), host.answers()]
        self.assertEqual(after, before)

    def test_a_free_host(self):
        for bit in (0, 1):
            self.check(Host("b", links=["c", "a", "x"]), "c", bit, [("a", 0), ("x", 0)])
            self.check(Host("b", links=["c"]), "c", bit, [])
            self.check(Host("b", links=["c", "a"]), "gone", bit, [("a", 0), ("c", 0)])

    def test_reserved_hosts(self):
        for bit in (0, 1):
            for cut in range(4):
                self.check(reserved_host(PATH, cut, 0), "b", bit, [("x", 0)])
                self.check(reserved_host(PATH, cut, 0), "x", bit, [("b", 0)])
                self.check(reserved_host(PATH, cut, 2), "b", bit, [("d", 0), ("x", 0)])
                self.check(reserved_host(PATH, cut, 2), "x", bit, [("b", 0), ("d", 0)])
                self.check(reserved_host(PATH, cut, 2), "d", bit, [("b", 0), ("x", 0)])

    def test_turned_hosts_of_the_far_side(self):
        for bit in (0, 1):
            self.check(turned_host(PATH, 1, 3), "x", bit, [("c", 0), ("e", 1)])
            self.check(turned_host(PATH, 1, 3), "c", bit, [("e", bit), ("x", 0)])
            self.check(turned_host(PATH, 1, 3), "e", bit, [("c", 0), ("x", 0)])
            self.check(turned_host(PATH, 1, 2), "x", bit, [("d", 1)])
            self.check(turned_host(PATH, 1, 2), "d", bit, [("x", 0)])

    def test_the_host_behind_the_cut_still_hears_the_host_before_it(self):
        for bit in (0, 1):
            self.check(turned_host(PATH, 1, 2), "b", bit, [("d", bit), ("x", 0)])
            self.check(turned_host(PATH, 0, 1), "a", bit, [("c", bit), ("x", 0)])
        self.check(turned_host(PATH, 3, 4), "d", 0, [("x", 0)])
        self.check(turned_host(PATH, 3, 4), "d", 1, [("a", 0), ("x", 0)])

    def test_turned_hosts_of_the_near_side(self):
        for bit in (0, 1):
            self.check(turned_host(PATH, 3, 2), "x", bit, [("b", 1), ("d", 0)])
            self.check(turned_host(PATH, 3, 2), "d", bit, [("b", bit), ("x", 0)])
            self.check(turned_host(PATH, 3, 2), "b", bit, [("d", 0), ("x", 0)])

    def test_the_turned_first_host(self):
        for bit in (0, 1):
            self.check(turned_host(PATH, 2, 0), "x", bit, [("b", 0), ("e", 0)])
        self.check(turned_host(PATH, 2, 0), "b", 0, [("x", 0)])
        self.check(turned_host(PATH, 2, 0), "b", 1, [("e", 0), ("x", 0)])

    def test_the_last_host(self):
        for bit in (0, 1):
            self.check(turned_host(PATH, 2, 4), "x", bit, [("a", 0), ("d", 0)])
        self.check(turned_host(PATH, 2, 4), "d", 0, [("x", 0)])
        self.check(turned_host(PATH, 2, 4), "d", 1, [("a", 0), ("x", 0)])

    def test_equal_messages_are_logged_each_time(self):
        host = Host("b", links=["a"])
        for count in range(1, 4):
            host.receive("a", ("message", "q", "hi", 0))
            self.assertEqual(host.log(), [("q", "hi")] * count)


class Asking(Case):
    def test_the_first_host(self):
        for cut in range(4):
            host = Host("a", links=["b", "x"])
            self.assertEqual(host.ask(PATH, cut), [("b", item("ask", cut))])
            self.assertEqual([host.relink(), host.phase(), host.waits_for()], [(PATH, cut), "reserved", "e"])
            self.assertEqual([host.links(), host.log(), host.queue(), host.answers()], [["b", "x"], [], [], []])

    def test_by_name(self):
        self.assertEqual(Host("a", links=["b"]).ask(cut=0, path=PATH), [("b", item("ask", 0))])

    def test_the_rest_of_the_path_is_not_checked(self):
        host = Host("a", links=["b", "x"])
        self.assertEqual(host.ask(("a", "b", "x"), 1), [("b", ("ask", ("a", "b", "x"), 1))])
        self.assertEqual(host.waits_for(), "x")


class AcceptedAsks(Case):
    def test_hosts_between(self):
        for cut in range(4):
            for at in (1, 2, 3):
                host = host_at(PATH, at)
                links = host.links()
                self.assertEqual(host.receive(PATH[at - 1], item("ask", cut)), [(PATH[at + 1], item("ask", cut))])
                self.assertEqual([host.relink(), host.phase(), host.waits_for()], [(PATH, cut), "reserved", None])
                self.assertEqual([host.links(), host.log(), host.answers()], [links, [], []])

    def test_the_last_host(self):
        for cut in range(4):
            host = host_at(PATH, 4)
            self.assertEqual(host.receive("d", item("ask", cut)), [("d", item("yes", cut))])
            self.assertEqual([host.relink(), host.phase(), host.waits_for()], [(PATH, cut), "turned", "a"])
            self.assertEqual(host.links(), ["a", "x"] if cut == 3 else ["a", "d", "x"])

    def test_the_last_host_of_a_path_of_three(self):
        host = Host("c", links=["b"])
        self.assertEqual(host.receive("b", ("ask", ("a", "b", "c"), 0)), [("b", ("yes", ("a", "b", "c"), 0))])
        self.assertEqual(host.links(), ["a", "b"])


class RefusedAsks(Case):
    def check(self, host, source, ask):
        """The host answers with "no" and stays as it is."""
        before = host.copied()
        self.assertEqual(host.receive(source, ask), [(source, ("no", *ask[1:]))])
        self.assertTrue(host == before)

    def test_not_linked_to_the_next_host(self):
        for cut in range(4):
            for at in (1, 2, 3):
                self.check(Host(PATH[at], links=[PATH[at - 1], "x"]), PATH[at - 1], item("ask", cut))
                self.check(Host(PATH[at], links=[PATH[at - 1]]), PATH[at - 1], item("ask", cut))

    def test_the_next_host_has_left(self):
        host = host_at(PATH, 2)
        host.receive("d", ("bye",))
        self.check(host, "b", item("ask", 1))

    def test_a_host_that_takes_part_in_another_relink(self):
        for at in range(5):
            for cut in (1, 2):
                places = [reserved_host] if at == cut else [turned_host] if at == 4 else [reserved_host, turned_host]
                for place in places:
                    name = PATH[at]
                    for path in [("p", "x", name), ("p", "x", name, "y"), ("x", name, "y")]:
                        self.check(place(PATH, cut, at, sides=("x", "y")), "x", ("ask", path, 0))

    def test_a_host_that_takes_part_in_the_same_relink(self):
        for at in (1, 2, 3):
            self.check(reserved_host(PATH, 2, at), PATH[at - 1], item("ask", 2))
        self.check(turned_host(PATH, 2, 1), "a", item("ask", 2))
        self.check(turned_host(PATH, 1, 3), "c", item("ask", 1))
        self.check(turned_host(PATH, 1, 4), "d", item("ask", 1))
        self.check(turned_host(PATH, 1, 4), "d", item("ask", 2))

    def test_the_last_host_needs_no_next_one(self):
        host = Host("e", links=["d"])
        self.assertEqual(host.receive("d", item("ask", 0)), [("d", item("yes", 0))])


class No(Case):
    def test_hosts_between(self):
        for cut in range(4):
            for at in (1, 2, 3):
                host = reserved_host(PATH, cut, at)
                self.assertEqual(host.receive(PATH[at + 1], item("no", cut)), [(PATH[at - 1], item("no", cut))])
                self.assertTrue(host == host_at(PATH, at))
                self.assertIsNone(host.waits_for())

    def test_the_first_host(self):
        for cut in range(4):
            host = reserved_host(PATH, cut, 0)
            self.assertEqual(host.receive("b", item("no", cut)), [])
            self.assertEqual([host.phase(), host.relink(), host.waits_for()], ["free", None, None])
            self.assertEqual([host.links(), host.answers()], [["b", "x"], [(PATH, cut, "refused")]])


class Yes(Case):
    def test_hosts_of_the_far_side(self):
        for cut in range(3):
            for at in range(cut + 1, 4):
                host = reserved_host(PATH, cut, at)
                self.assertEqual(host.receive(PATH[at + 1], item("yes", cut)), [(PATH[at - 1], item("yes", cut))])
                self.assertEqual([host.phase(), host.relink(), host.waits_for()], ["turned", (PATH, cut), None])
                kept = [PATH[at + 1], "x"] if at == cut + 1 else [PATH[at - 1], PATH[at + 1], "x"]
                self.assertEqual(host.links(), kept)

    def test_hosts_of_the_near_side(self):
        for cut in range(1, 4):
            for at in range(1, cut + 1):
                host = reserved_host(PATH, cut, at)
                before = host.copied()
                self.assertEqual(host.receive(PATH[at + 1], item("yes", cut)), [(PATH[at - 1], item("yes", cut))])
                self.assertTrue(host == before)
                self.assertEqual(host.phase(), "reserved")

    def test_the_first_host(self):
        for cut in (1, 2, 3):
            host = reserved_host(PATH, cut, 0)
            self.assertEqual(host.receive("b", item("yes", cut)), [("b", item("go", cut))])
            self.assertEqual([host.phase(), host.relink(), host.waits_for()], ["turned", (PATH, cut), "e"])
            self.assertEqual([host.links(), host.answers()], [["b", "e", "x"], []])

    def test_the_first_host_with_cut_0_is_done(self):
        host = reserved_host(PATH, 0, 0)
        self.assertEqual(host.receive("b", item("yes", 0)), [("b", item("go", 0))])
        self.assertEqual([host.phase(), host.relink(), host.waits_for()], ["free", None, None])
        self.assertEqual([host.links(), host.answers()], [["e", "x"], [(PATH, 0, "done")]])


class Go(Case):
    def test_hosts_before_the_cut(self):
        for cut in (2, 3):
            for at in range(1, cut):
                host = reserved_host(PATH, cut, at)
                host.receive(PATH[at + 1], item("yes", cut))
                self.assertEqual(host.receive(PATH[at - 1], item("go", cut)), [(PATH[at + 1], item("go", cut))])
                self.assertEqual([host.phase(), host.relink()], ["turned", (PATH, cut)])
                self.assertEqual(host.links(), host_at(PATH, at).links())

    def test_the_host_at_the_cut(self):
        for cut in (1, 2, 3):
            host = reserved_host(PATH, cut, cut)
            host.receive(PATH[cut + 1], item("yes", cut))
            sends = [(PATH[cut + 1], item("go", cut)), (PATH[cut - 1], item("back", cut))]
            self.assertEqual(host.receive(PATH[cut - 1], item("go", cut)), sends)
            self.assertTrue(host == Host(PATH[cut], links=[PATH[cut - 1], "x"]))

    def test_hosts_of_the_far_side(self):
        for cut in range(3):
            for at in range(cut + 1, 4):
                host = turned_host(PATH, cut, at)
                links = host.links()
                self.assertEqual(host.receive(PATH[at - 1], item("go", cut)), [(PATH[at + 1], item("go", cut))])
                self.assertTrue(host == Host(PATH[at], links=links))

    def test_the_last_host(self):
        for cut in range(4):
            host = turned_host(PATH, cut, 4)
            self.assertEqual(host.receive("d", item("go", cut)), [])
            self.assertTrue(host == Host("e", links=["a", "x"] if cut == 3 else ["a", "d", "x"]))
            self.assertIsNone(host.waits_for())


class Back(Case):
    def test_hosts_of_the_near_side(self):
        for cut in (2, 3):
            for at in range(1, cut):
                host = turned_host(PATH, cut, at)
                self.assertEqual(host.receive(PATH[at + 1], item("back", cut)), [(PATH[at - 1], item("back", cut))])
                self.assertTrue(host == host_at(PATH, at))

    def test_the_first_host(self):
        for cut in (1, 2, 3):
            host = turned_host(PATH, cut, 0)
            self.assertEqual(host.receive("b", item("back", cut)), [])
            self.assertEqual([host.phase(), host.relink(), host.waits_for()], ["free", None, None])
            self.assertEqual([host.links(), host.answers()], [["b", "e", "x"], [(PATH, cut, "done")]])


class Byes(Case):
    def test_a_free_host(self):
        host = Host("b", links=["a", "c"], log=[("a", "x")])
        self.assertEqual(host.receive("a", ("bye",)), [])
        self.assertTrue(host == Host("b", links=["c"], log=[("a", "x")]))
        self.assertEqual(host.receive("c", ("bye",)), [])
        self.assertEqual(host.links(), [])

    def test_over_a_side_link(self):
        places = [reserved_host(PATH, 2, at) for at in range(4)] + [turned_host(PATH, 2, at) for at in (0, 1, 3, 4)]
        for host in places:
            links, phase = host.links(), host.phase()
            self.assertEqual(host.receive("x", ("bye",)), [])
            self.assertEqual([host.links(), host.phase()], [[link for link in links if link != "x"], phase])
            self.assertEqual(host.relink(), (PATH, 2))

    def test_while_an_ask_is_in_flight_to_the_leaf(self):
        for cut in range(4):
            for at in (1, 2, 3):
                host = reserved_host(PATH, cut, at)
                self.assertEqual(host.receive(PATH[at + 1], ("bye",)), [(PATH[at - 1], item("no", cut))])
                self.assertTrue(host == Host(PATH[at], links=[PATH[at - 1], "x"]))

    def test_while_the_ask_of_the_first_host_is_in_flight(self):
        for cut in range(4):
            host = reserved_host(PATH, cut, 0)
            self.assertEqual(host.receive("b", ("bye",)), [])
            self.assertEqual([host.phase(), host.links(), host.waits_for()], ["free", ["x"], None])
            self.assertEqual(host.answers(), [(PATH, cut, "refused")])

    def test_of_another_host_of_the_path(self):
        host = Host("b", links=["a", "c", "e"])
        host.receive("a", item("ask", 2))
        self.assertEqual(host.receive("e", ("bye",)), [])
        self.assertEqual([host.links(), host.phase()], [["a", "c"], "reserved"])

    def test_among_hosts_that_pass_the_items_on(self):
        for cut in (0, 1, 2):
            world = World([("a", "b"), ("b", "c"), ("c", "d")])
            world.ask(("a", "b", "c", "d"), cut)
            world.deliver("a", "b")
            world.deliver("b", "c")
            self.assertEqual(world.channels.in_flight("c", "d"), [("ask", ("a", "b", "c", "d"), cut)])
            world.remove("d")
            self.assertEqual(world.channels.busy(), [("d", "c")])
            self.assertEqual(world.deliver("d", "c"), ("bye",))
            self.assertEqual(world.settle(), 2)
            self.assertEqual(world.hosts["a"].answers(), [(("a", "b", "c", "d"), cut, "refused")])
            self.assertEqual([host.phase() for host in world.hosts.values()], ["free"] * 3)
            self.assertEqual(world.links(), [("a", "b"), ("b", "c")])

    def test_a_leaf_that_refused_and_then_left(self):
        world = World([("a", "b"), ("b", "c")])
        world.ask(("a", "b", "c", "d"), 1)
        world.deliver("a", "b")
        world.deliver("b", "c")
        world.remove("c")
        self.assertEqual(world.channels.in_flight("c", "b"), [("no", ("a", "b", "c", "d"), 1), ("bye",)])
        world.settle()
        self.assertEqual(world.hosts["a"].answers(), [(("a", "b", "c", "d"), 1, "refused")])
        self.assertEqual(world.links(), [("a", "b")])


class WholeRelinks(Case):
    def traced(self, world):
        """Delivers the first busy channel until rest; what was delivered, as words."""
        trace = []
        while world.channels.busy():
            source, goal = world.channels.busy()[0]
            trace.append(f"{source} {world.deliver(source, goal)[0]} {goal}")
        return trace

    def test_the_items_of_every_cut(self):
        there = ["a ask b", "b ask c", "c ask d", "d yes c", "c yes b", "b yes a"]
        rest = [
            ["a go b", "b go c", "c go d"],
            ["a go b", "b back a", "b go c", "c go d"],
            ["a go b", "b go c", "c back b", "b back a", "c go d"],
        ]
        links = [
            [("a", "d"), ("b", "c"), ("c", "d")], [("a", "b"), ("a", "d"), ("c", "d")], [("a", "b"), ("a", "d"), ("b", "c")],
        ]
        for cut in range(3):
            world = World([("a", "b"), ("b", "c"), ("c", "d")])
            world.ask(("a", "b", "c", "d"), cut)
            self.assertEqual(self.traced(world), there + rest[cut])
            self.assertEqual(world.links(), links[cut])
            self.assertEqual(world.hosts["a"].answers(), [(("a", "b", "c", "d"), cut, "done")])
            self.assertEqual({host.phase() for host in world.hosts.values()}, {"free"})

    def test_the_answers_in_their_order(self):
        world = World([("a", "b"), ("b", "c"), ("c", "d")])
        expected = []
        for path, cut, outcome in [
            ("abcd", 1, "done"), ("abc", 0, "refused"), ("abx", 0, "refused"), ("adcx", 1, "refused"),
            ("abcd", 1, "refused"), ("adc", 0, "done"),
        ]:
            world.ask(tuple(path), cut)
            world.settle()
            expected.append((tuple(path), cut, outcome))
            self.assertEqual(world.hosts["a"].answers(), expected)
        self.assertEqual(world.links(), [("a", "b"), ("a", "c"), ("c", "d")])
        world.ask(("c", "a", "b"), 1)
        world.settle()
        self.assertEqual(world.hosts["a"].answers(), expected)
        self.assertEqual(world.hosts["c"].answers(), [(("c", "a", "b"), 1, "done")])

    def test_there_and_back_again(self):
        world = World([("a", "b"), ("b", "c"), ("c", "d")])
        for _ in range(3):
            world.ask(("a", "b", "c", "d"), 1)
            world.settle()
            self.assertEqual(world.links(), [("a", "b"), ("a", "d"), ("c", "d")])
            world.ask(("b", "a", "d", "c"), 1)
            world.settle()
            self.assertEqual(world.links(), [("a", "b"), ("b", "c"), ("c", "d")])
        self.assertEqual(world.hosts["a"].answers(), [(("a", "b", "c", "d"), 1, "done")] * 3)
        self.assertEqual(world.hosts["b"].answers(), [(("b", "a", "d", "c"), 1, "done")] * 3)

    def test_two_relinks_on_different_hosts_at_the_same_time(self):
        links = [("a", "b"), ("b", "c"), ("c", "d"), ("d", "e"), ("e", "f")]
        for one, other in itertools.product(range(2), range(2)):
            world = World(links)
            world.ask(("a", "b", "c"), one)
            world.ask(("f", "e", "d"), other)
            world.settle()
            self.assertEqual(world.hosts["a"].answers(), [(("a", "b", "c"), one, "done")])
            self.assertEqual(world.hosts["f"].answers(), [(("f", "e", "d"), other, "done")])
            self.assertIn(("a", "c"), world.links())
            self.assertIn(("d", "f"), world.links())
            self.assertEqual(len(world.links()), 5)

    def test_of_two_relinks_with_a_common_host_one_is_refused(self):
        world = World([("a", "b"), ("b", "c"), ("c", "d"), ("d", "e")])
        world.ask(("a", "b", "c"), 1)
        world.ask(("e", "d", "c"), 1)
        for source, goal in ["ab", "bc", "ed", "dc"]:
            self.assertEqual(world.deliver(source, goal)[0], "ask")
        world.settle()
        self.assertEqual(world.hosts["a"].answers(), [(("a", "b", "c"), 1, "done")])
        self.assertEqual(world.hosts["e"].answers(), [(("e", "d", "c"), 1, "refused")])
        self.assertEqual(world.links(), [("a", "b"), ("a", "c"), ("c", "d"), ("d", "e")])
