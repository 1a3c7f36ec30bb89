"""Relinks in a network, delivery by delivery: who is in which phase, which links there are, who queues what."""

from relinktree.networks import Network
from relinktree.runs import settle, tree_at_rest
from tests.network_support import NetworkCase, deliver_all, network_on, tree_of

ABC = ("a", "b", "c")
ABCD = ("a", "b", "c", "d")
PHASES = {"free": "f", "reserved": "r", "turned": "t"}


def message(writer, word, bit=0):
    return ("message", writer, word, bit)


class StepByStep(NetworkCase):
    def check(self, network, phases, links):
        """The phases of the hosts, by their first letters, and their links, as in "b ac b"."""
        members = [network.member(name) for name in network.hosts()]
        self.assertEqual("".join([PHASES[member.phase()] for member in members]), phases)
        self.assertEqual(" ".join(["".join(member.links()) for member in members]), links)

    def follow(self, network, path, cut, rows):
        """Delivers item by item; each row is the channel, the kind, the phases and the links after it."""
        for channel, kind, phases, links in rows:
            self.assertEqual(network.deliver(*channel), (kind, path, cut))
            self.check(network, phases, links)
        self.assertTrue(network.is_at_rest())

    def test_three_hosts_cut_0(self):
        network = network_on("abc")
        network.ask(ABC, 0)
        self.check(network, "rff", "b ac b")
        self.follow(network, ABC, 0, [
            ("ab", "ask", "rrf", "b ac b"),
            ("bc", "ask", "rrt", "b ac ab"),
            ("cb", "yes", "rtt", "b c ab"),
            ("ba", "yes", "ftt", "c c ab"),
            ("ab", "go", "fft", "c c ab"),
            ("bc", "go", "fff", "c c ab"),
        ])
        self.assertEqual(network.member("a").answers(), [(ABC, 0, "done")])

    def test_three_hosts_cut_1(self):
        network = network_on("abc")
        network.ask(ABC, 1)
        self.follow(network, ABC, 1, [
            ("ab", "ask", "rrf", "b ac b"),
            ("bc", "ask", "rrt", "b ac a"),
            ("cb", "yes", "rrt", "b ac a"),
            ("ba", "yes", "trt", "bc ac a"),
            ("ab", "go", "tft", "bc a a"),
            ("ba", "back", "fft", "bc a a"),
            ("bc", "go", "fff", "bc a a"),
        ])
        self.assertEqual(network.member("a").answers(), [(ABC, 1, "done")])

    def test_five_hosts_cut_2(self):
        path = ("a", "b", "c", "d", "e")
        network = network_on("abcde")
        network.ask(path, 2)
        self.follow(network, path, 2, [
            ("ab", "ask", "rrfff", "b ac bd ce d"),
            ("bc", "ask", "rrrff", "b ac bd ce d"),
            ("cd", "ask", "rrrrf", "b ac bd ce d"),
            ("de", "ask", "rrrrt", "b ac bd ce ad"),
            ("ed", "yes", "rrrtt", "b ac bd e ad"),
            ("dc", "yes", "rrrtt", "b ac bd e ad"),
            ("cb", "yes", "rrrtt", "b ac bd e ad"),
            ("ba", "yes", "trrtt", "be ac bd e ad"),
            ("ab", "go", "ttrtt", "be ac bd e ad"),
            ("bc", "go", "ttftt", "be ac b e ad"),
            ("cd", "go", "ttfft", "be ac b e ad"),
            ("de", "go", "ttfff", "be ac b e ad"),
            ("cb", "back", "tffff", "be ac b e ad"),
            ("ba", "back", "fffff", "be ac b e ad"),
        ])

    def test_refused_because_the_path_does_not_fit(self):
        path = ("a", "b", "c", "x")
        network = network_on("abcd")
        network.ask(path, 1)
        self.follow(network, path, 1, [
            ("ab", "ask", "rrff", "b ac bd c"),
            ("bc", "ask", "rrff", "b ac bd c"),
            ("cb", "no", "rfff", "b ac bd c"),
            ("ba", "no", "ffff", "b ac bd c"),
        ])
        self.assertEqual(network.member("a").answers(), [(path, 1, "refused")])

    def test_refused_because_a_host_takes_part_in_another_relink(self):
        network = network_on("abcd")
        network.ask(("c", "b", "a"), 0)
        network.ask(ABCD, 1)
        self.assertEqual(network.deliver("a", "b"), ("ask", ABCD, 1))
        self.assertEqual(deliver_all(network, "bc", "cb"), ["ask", "ask"])
        self.assertEqual([network.member("b").relink(), network.member("c").relink()], [(ABCD, 1), (("c", "b", "a"), 0)])
        settle(network)
        self.assertEqual(network.member("a").answers(), [(ABCD, 1, "refused")])
        self.assertEqual(network.member("c").answers(), [(("c", "b", "a"), 0, "refused")])
        self.assertEqual(tree_at_rest(network), tree_of("ab bc cd"))


class Barriers(NetworkCase):
    def test_both_ends_queue_what_the_other_one_sends(self):
        network = Network(tree_of("ab bc ax cy"))
        network.ask(ABC, 1)
        self.assertEqual(deliver_all(network, "ab", "bc"), ["ask", "ask"])
        network.write("c", "early")
        network.deliver("c", "a")
        self.assertEqual([network.member("a").queue(), network.member("a").log()], [[message("c", "early")], []])
        self.assertEqual(deliver_all(network, "cb", "ba"), ["yes", "yes"])
        network.write("a", "mine")
        network.deliver("a", "c")
        self.assertEqual(network.member("c").queue(), [message("a", "mine")])
        self.assertEqual(network.in_flight("a", "x"), [message("a", "mine")])
        self.assertEqual(deliver_all(network, "ab", "ba"), ["go", "back"])
        self.assertEqual([network.member("a").queue(), network.member("a").log()], [[], [("a", "mine"), ("c", "early")]])
        self.assertEqual(network.in_flight("a", "x"), [message("a", "mine"), message("c", "early")])
        # The "back" overtook nothing: what a wrote on the old link is still ahead of what it sends on.
        self.assertEqual(network.in_flight("a", "b"), [message("a", "mine"), message("c", "early")])
        self.assertEqual(network.member("c").queue(), [message("a", "mine")])
        self.assertEqual(network.deliver("b", "c"), ("go", ABC, 1))
        self.assertEqual([network.member("c").queue(), network.member("c").log()], [[], [("c", "early"), ("a", "mine")]])
        settle(network)
        for name in "abcxy":
            self.assertEqual(sorted(network.member(name).log()), [("a", "mine"), ("c", "early")])

    def test_a_message_on_the_old_way_does_not_cross_the_new_link(self):
        network = network_on("abc")
        network.write("a", "x")
        network.ask(ABC, 1)
        self.assertEqual(deliver_all(network, "ab", "bc"), ["message", "message"])
        self.assertEqual(deliver_all(network, "ab", "bc", "cb", "ba"), ["ask", "ask", "yes", "yes"])
        self.assertEqual(network.in_flight("a", "c"), [])
        network.write("b", "y")
        self.assertEqual(network.in_flight("b", "c"), [message("b", "y")])
        self.assertEqual(network.in_flight("b", "a"), [message("b", "y")])
        network.deliver("b", "a")
        self.assertEqual(network.in_flight("a", "c"), [])
        settle(network)
        self.assertEqual(network.member("c").log(), [("a", "x"), ("b", "y")])

    def test_bit_1_crosses_the_new_link(self):
        path = ("a", "b", "c", "d")
        network = network_on("abcd")
        network.ask(path, 0)
        self.assertEqual(deliver_all(network, "ab", "bc", "cd", "dc", "cb"), ["ask", "ask", "ask", "yes", "yes"])
        network.write("b", "x")
        self.assertEqual(network.in_flight("b", "c"), [message("b", "x", 1)])
        self.assertEqual(network.in_flight("b", "a"), [("yes", path, 0)])
        network.deliver("b", "c")
        self.assertEqual(network.in_flight("c", "d"), [message("b", "x", 1)])
        network.deliver("c", "d")
        self.assertEqual(network.in_flight("d", "a"), [message("b", "x")])
        network.deliver("d", "a")
        self.assertEqual(network.member("a").queue(), [message("b", "x")])
        network.deliver("b", "a")
        self.assertEqual(network.member("a").log(), [("b", "x")])
        settle(network)
        self.assertEqual([network.member(name).log() for name in path], [[("b", "x")]] * 4)

    def test_an_ask_in_a_queue_is_answered_when_the_barrier_falls(self):
        network = Network(tree_of("ab bc cx"))
        network.ask(ABC, 0)
        deliver_all(network, "ab", "bc", "cb", "ba")
        # a is done and asks over the new link, while c still waits for it.
        network.ask(("a", "c", "x"), 1)
        network.write("a", "late")
        self.assertEqual(deliver_all(network, "ac", "ac"), ["ask", "message"])
        self.assertEqual(network.member("c").queue(), [("ask", ("a", "c", "x"), 1), message("a", "late")])
        self.assertEqual(deliver_all(network, "ab", "bc"), ["go", "go"])
        self.assertEqual([network.member("c").relink(), network.member("c").queue()], [(("a", "c", "x"), 1), []])
        self.assertEqual(network.in_flight("c", "x"), [("ask", ("a", "c", "x"), 1), message("a", "late")])
        self.assertEqual(network.member("c").log(), [("a", "late")])
        settle(network)
        self.assertEqual(tree_at_rest(network), tree_of("ac ax bc"))


class SeveralRelinks(NetworkCase):
    def test_at_the_same_time(self):
        network = network_on("abcdef")
        network.ask(ABC, 1)
        network.ask(("f", "e", "d"), 0)
        phases = []
        while network.busy():
            network.deliver(*network.busy()[len(phases) % len(network.busy())])
            phases.append([network.member(name).phase() for name in "af"])
        self.assertIn(["reserved", "reserved"], phases)
        self.assertEqual(network.member("a").answers(), [(ABC, 1, "done")])
        self.assertEqual(network.member("f").answers(), [(("f", "e", "d"), 0, "done")])
        self.assertEqual(tree_at_rest(network), tree_of("ab ac cd de df"))

    def test_one_after_another(self):
        network = network_on("abcd")
        tree = network.first_tree()
        relinks = [(ABCD, 1), (("b", "a", "d"), 0), (("c", "d", "b"), 1), (("a", "d", "c"), 1), (("d", "a", "c", "b"), 2)]
        for path, cut in relinks:
            network.ask(path, cut)
            settle(network, choices=[1, 2, 3])
            self.assertEqual(network.member(path[0]).answers()[-1], (path, cut, "done"))
            tree = tree.relinked(path, cut)
            self.assertEqual(tree_at_rest(network), tree)
        self.assertEqual(network.member("a").answers(), [(*relinks[0], "done"), (*relinks[3], "done")])
        self.assertEqual(network.member("d").answers(), [(*relinks[4], "done")])
