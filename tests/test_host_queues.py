"""Barriers: what a host queues while it waits, and how it processes its queue."""

from relinktree.hosts import Host
from tests.support import Case, World, reserved_host, turned_host

PATH = ("a", "b", "c", "d")


def message(word, bit=0, writer="q"):
    return ("message", writer, word, bit)


class Queueing(Case):
    def test_the_last_host_queues_what_the_first_one_sends(self):
        for cut in range(3):
            host = turned_host(PATH, cut, 3)
            before = host.copied()
            items = [message("one"), message("two", 1), message("one"), ("bye",), ("ask", ("p", "a", "d"), 1)]
            for count, item in enumerate(items):
                self.assertEqual(host.queue(), items[:count])
                self.assertEqual(host.receive("a", item), [])
            self.assertEqual(host.queue(), items)
            self.assertEqual([host.log(), host.links(), host.phase()], [[], before.links(), "turned"])
            self.assertEqual([host.relink(), host.waits_for(), host.answers()], [(PATH, cut), "a", []])

    def test_the_first_host_queues_what_the_last_one_sends(self):
        for host in [reserved_host(PATH, 2, 0), turned_host(PATH, 2, 0)]:
            phase, links = host.phase(), host.links()
            for item in [message("one"), ("ask", ("p", "d", "a"), 0), ("bye",)]:
                self.assertEqual(host.receive("d", item), [])
            self.assertEqual(host.queue(), [message("one"), ("ask", ("p", "d", "a"), 0), ("bye",)])
            self.assertEqual([host.log(), host.phase(), host.links()], [[], phase, links])

    def test_items_of_other_hosts_are_not_queued(self):
        first, last = turned_host(PATH, 2, 0), turned_host(PATH, 2, 3)
        first.receive("d", message("later"))
        last.receive("a", message("later"))
        self.assertEqual(first.receive("x", message("now")), [("b", message("now")), ("d", message("now"))])
        self.assertEqual(last.receive("x", message("now")), [("a", message("now"))])
        self.assertEqual(last.receive("c", message("from", 1)), [("a", message("from")), ("x", message("from"))])
        self.assertEqual([first.log(), last.log()], [[("q", "now")], [("q", "now"), ("q", "from")]])
        self.assertEqual([first.queue(), last.queue()], [[message("later")], [message("later")]])

    def test_other_hosts_of_the_path_queue_nothing(self):
        for at in (1, 2):
            for source in (PATH[at - 1], PATH[at + 1], "x"):
                host = reserved_host(PATH, 1, at)
                host.receive(source, message("hi"))
                self.assertEqual([host.queue(), host.log(), host.waits_for()], [[], [("q", "hi")], None])

    def test_nothing_is_queued_after_the_relink(self):
        first, last = turned_host(PATH, 2, 0), turned_host(PATH, 2, 3)
        first.receive("b", ("back", PATH, 2))
        last.receive("c", ("go", PATH, 2))
        self.assertEqual(first.receive("d", message("hi")), [("b", message("hi")), ("x", message("hi"))])
        self.assertEqual(last.receive("a", message("hi")), [("x", message("hi"))])
        self.assertEqual([first.queue(), last.queue()], [[], []])


class Processing(Case):
    def test_the_last_host_after_go(self):
        host = turned_host(PATH, 1, 3)
        host.receive("a", message("one", 1))
        host.receive("a", message("two"))
        host.write("own")
        sends = host.receive("c", ("go", PATH, 1))
        expected = [("c", message("one")), ("x", message("one")), ("c", message("two")), ("x", message("two"))]
        self.assertEqual(sends, expected)
        self.assertEqual(host.log(), [("d", "own"), ("q", "one"), ("q", "two")])
        self.assertEqual([host.queue(), host.phase(), host.waits_for()], [[], "free", None])

    def test_the_first_host_after_back(self):
        host = turned_host(PATH, 1, 0)
        host.receive("d", message("one", 1))
        host.receive("d", message("two"))
        sends = host.receive("b", ("back", PATH, 1))
        expected = [("b", message("one")), ("x", message("one")), ("b", message("two")), ("x", message("two"))]
        self.assertEqual(sends, expected)
        self.assertEqual([host.log(), host.queue()], [[("q", "one"), ("q", "two")], []])
        self.assertEqual(host.answers(), [(PATH, 1, "done")])

    def test_the_first_host_with_cut_0_sends_go_first(self):
        host = reserved_host(PATH, 0, 0)
        host.receive("d", message("one"))
        host.receive("d", message("two"))
        sends = host.receive("b", ("yes", PATH, 0))
        self.assertEqual(sends, [("b", ("go", PATH, 0)), ("x", message("one")), ("x", message("two"))])
        self.assertEqual([host.links(), host.queue(), host.phase()], [["d", "x"], [], "free"])

    def test_the_first_host_after_no(self):
        host = Host("a", links=["b", "c", "x"])
        host.ask(("a", "b", "c"), 1)
        host.receive("c", message("one"))
        host.receive("c", ("bye",))
        self.assertEqual(host.links(), ["b", "c", "x"])
        sends = host.receive("b", ("no", ("a", "b", "c"), 1))
        self.assertEqual(sends, [("b", message("one")), ("x", message("one"))])
        self.assertEqual([host.links(), host.log(), host.queue()], [["b", "x"], [("q", "one")], []])
        self.assertEqual([host.phase(), host.answers()], ["free", [(("a", "b", "c"), 1, "refused")]])

    def test_the_first_host_after_the_bye_of_the_second(self):
        host = Host("a", links=["b", "c", "x"])
        host.ask(("a", "b", "c"), 0)
        host.receive("c", message("one"))
        self.assertEqual(host.receive("b", ("bye",)), [("x", message("one"))])
        self.assertEqual([host.links(), host.log(), host.queue()], [["c", "x"], [("q", "one")], []])
        self.assertEqual([host.phase(), host.answers()], ["free", [(("a", "b", "c"), 0, "refused")]])

    def test_a_bye_over_the_new_link(self):
        first, last = turned_host(PATH, 2, 0), turned_host(PATH, 2, 3)
        first.receive("d", ("bye",))
        last.receive("a", ("bye",))
        self.assertEqual([first.links(), last.links()], [["b", "d", "x"], ["a", "x"]])
        self.assertEqual(first.receive("b", ("back", PATH, 2)), [])
        self.assertEqual(last.receive("c", ("go", PATH, 2)), [])
        self.assertEqual([first.links(), last.links()], [["b", "x"], ["x"]])
        self.assertEqual([first.queue(), last.queue()], [[], []])

    def test_a_bye_behind_messages(self):
        host = turned_host(PATH, 1, 3)
        host.receive("a", message("one"))
        host.receive("a", ("bye",))
        self.assertEqual(host.receive("c", ("go", PATH, 1)), [("c", message("one")), ("x", message("one"))])
        self.assertEqual([host.links(), host.log()], [["c", "x"], [("q", "one")]])

    def test_a_leaf_that_joined_meanwhile(self):
        host = turned_host(PATH, 1, 3)
        host.receive("a", message("one"))
        host.add_link("new")
        self.assertEqual(host.log(), [])
        sends = host.receive("c", ("go", PATH, 1))
        self.assertEqual(sends, [("c", message("one")), ("new", message("one")), ("x", message("one"))])

    def test_a_link_that_went_meanwhile(self):
        host = turned_host(PATH, 1, 3)
        host.receive("a", message("one"))
        host.receive("x", ("bye",))
        self.assertEqual(host.receive("c", ("go", PATH, 1)), [("c", message("one"))])

    def test_an_empty_queue(self):
        self.assertEqual(turned_host(PATH, 1, 3).receive("c", ("go", PATH, 1)), [])
        self.assertEqual(turned_host(PATH, 1, 0).receive("b", ("back", PATH, 1)), [])

    def test_a_hundred_items(self):
        host = turned_host(PATH, 1, 3)
        for number in range(100):
            host.receive("a", message(f"w{number}"))
        self.assertEqual(len(host.queue()), 100)
        sends = host.receive("c", ("go", PATH, 1))
        self.assertEqual(host.log(), [("q", f"w{number}") for number in range(100)])
        self.assertEqual(sends, [(goal, message(f"w{number}")) for number in range(100) for goal in ("c", "x")])


class QueuedAsks(Case):
    def test_accepted_between_two_messages(self):
        host = turned_host(PATH, 1, 0)
        ask = ("ask", ("p", "d", "a", "x"), 1)
        for item in [message("one"), ask, message("two")]:
            host.receive("d", item)
        sends = host.receive("b", ("back", PATH, 1))
        self.assertEqual(sends, [
            ("b", message("one")), ("x", message("one")), ("x", ask), ("b", message("two")), ("x", message("two")),
        ])
        self.assertEqual([host.phase(), host.relink(), host.waits_for()], ["reserved", ask[1:], None])
        self.assertEqual([host.queue(), host.log()], [[], [("q", "one"), ("q", "two")]])

    def test_accepted_as_the_last_host_which_then_waits_for_another(self):
        for cut, links in [(0, ["b", "d", "p", "x"]), (1, ["b", "p", "x"])]:
            host = turned_host(PATH, 1, 0)
            relink = (("p", "d", "a"), cut)
            for item in [message("one"), ("ask", *relink), message("two"), message("three", 1)]:
                host.receive("d", item)
            sends = host.receive("b", ("back", PATH, 1))
            self.assertEqual(sends, [
                ("b", message("one")), ("x", message("one")), ("d", ("yes", *relink)),
                ("b", message("two")), ("x", message("two")),
                ("b", message("three")), ("p", message("three")), ("x", message("three")),
            ])
            self.assertEqual([host.phase(), host.relink(), host.waits_for()], ["turned", relink, "p"])
            self.assertEqual([host.queue(), host.links()], [[], links])
            self.assertEqual(host.log(), [("q", "one"), ("q", "two"), ("q", "three")])
            self.assertEqual(host.answers(), [(PATH, 1, "done")])

    def test_refused(self):
        host = turned_host(PATH, 1, 3)
        ask = ("ask", ("p", "a", "d", "nowhere"), 0)
        for item in [message("one"), ask, message("two")]:
            host.receive("a", item)
        sends = host.receive("c", ("go", PATH, 1))
        self.assertEqual(sends, [
            ("c", message("one")), ("x", message("one")), ("a", ("no", *ask[1:])),
            ("c", message("two")), ("x", message("two")),
        ])
        self.assertEqual([host.phase(), host.queue()], ["free", []])

    def test_of_the_host_that_was_waited_for(self):
        host = turned_host(PATH, 1, 3)
        relink = (("a", "d", "x"), 1)
        host.receive("a", ("ask", *relink))
        self.assertEqual(host.receive("c", ("go", PATH, 1)), [("x", ("ask", *relink))])
        self.assertEqual([host.phase(), host.relink()], ["reserved", relink])
        self.assertEqual(host.receive("x", ("yes", *relink)), [("a", ("yes", *relink))])

    def test_after_no(self):
        host = Host("a", links=["b", "c", "x"])
        host.ask(("a", "b", "c"), 1)
        ask = ("ask", ("c", "a", "x"), 0)
        host.receive("c", ask)
        self.assertEqual(host.receive("b", ("no", ("a", "b", "c"), 1)), [("x", ask)])
        self.assertEqual([host.phase(), host.relink(), host.queue()], ["reserved", ask[1:], []])

    def test_among_hosts_that_pass_the_items_on(self):
        world = World([("a", "b"), ("b", "c"), ("c", "d"), ("c", "p")])
        world.ask(("a", "b", "c"), 1)
        for source, goal in ["ab", "bc", "cb", "ba", "ab", "bc"]:
            world.deliver(source, goal)
        self.assertEqual([world.hosts["c"].phase(), world.hosts["a"].phase()], ["free", "turned"])
        world.ask(("p", "c", "a"), 0)
        world.deliver("p", "c")
        world.deliver("c", "a")
        self.assertEqual(world.hosts["a"].queue(), [("ask", ("p", "c", "a"), 0)])
        self.assertEqual(world.deliver("b", "a"), ("back", ("a", "b", "c"), 1))
        self.assertEqual([world.hosts["a"].queue(), world.hosts["a"].waits_for()], [[], "p"])
        world.settle()
        self.assertEqual(world.links(), [("a", "b"), ("a", "c"), ("a", "p"), ("c", "d")])
        self.assertEqual(world.hosts["p"].answers(), [(("p", "c", "a"), 0, "done")])
