"""The guarantees of networks, each by its own test, in every order or in many orders of deliveries."""

import random

from relinktree.errors import Busy, NotLinked
from relinktree.hosts import Host
from relinktree.networks import Network
from relinktree.runs import settle, tree_at_rest
from relinktree.trees import Tree
from tests.network_support import NetworkCase, any_event, any_run, any_tree, host_state, network_on, state, try_event

QUIET = ["write", "ask", "ask", "deliver", "deliver", "deliver", "deliver"]
LIVELY = QUIET + ["add", "remove"]


def runs(kinds, seeds, after_each=lambda network, event: None):
    return [any_run(seed, kinds, after_each) for seed in seeds]


def written(network):
    return [event[1:] for event in network.events() if event[0] == "write"]


class Once(NetworkCase):
    def check_logs(self, network, event):
        for name in network.hosts():
            log = network.member(name).log()
            self.assertEqual(len(set(log)), len(log), network.events())

    def test_no_host_logs_a_message_twice(self):
        runs(LIVELY, range(100), self.check_logs)
        runs(QUIET, range(100, 160), self.check_logs)

    def test_at_rest_all_logs_hold_the_same_messages(self):
        for network in runs(LIVELY, range(200, 320)):
            logs = [sorted(network.member(name).log()) for name in network.hosts()]
            self.assertEqual(logs, logs[:1] * len(logs))

    def test_each_message_is_there_as_often_as_it_was_written(self):
        for network in runs(QUIET + ["add"], range(400, 480)):
            for name in network.hosts():
                self.assertEqual(sorted(network.member(name).log()), sorted(written(network)))

    def test_equal_messages(self):
        for seed in range(40):
            rng = random.Random(seed)
            network = Network(any_tree(rng, 5))
            for number in range(40):
                event = any_event(rng, network, number, QUIET)
                try_event(network, ("write", event[1], "same") if event[0] == "write" else event)
            settle(network, choices=[rng.randrange(9) for _ in range(200)])
            for name in network.hosts():
                self.assertEqual(sorted(network.member(name).log()), sorted(written(network)))


class Causal(NetworkCase):
    def test_what_a_writer_had_logged_comes_first(self):
        for kinds, seeds in [(QUIET, range(500, 580)), (LIVELY, range(580, 700))]:
            for seed in seeds:
                self.check_run(seed, kinds)

    def check_run(self, seed, kinds):
        pasts = {}

        def check(network, event):
            if event[0] == "write":
                pasts[event[1:]] = network.member(event[1]).log()[:-1]
            for name in network.hosts():
                before = set()
                for entry in network.member(name).log():
                    self.assertLessEqual(set(pasts[entry]), before, (name, entry, network.events()))
                    before.add(entry)

        any_run(seed, kinds, check)


class NobodyWaits(NetworkCase):
    def check_writing(self, network, event):
        twin = network.copied()
        for name in twin.hosts():
            twin.write(name, "more")
            self.assertEqual(twin.member(name).log()[-1], (name, "more"))

    def test_writing_is_always_possible(self):
        runs(LIVELY, range(700, 730), self.check_writing)

    def test_only_the_ends_of_a_relink_queue_items_of_each_other(self):
        queued = {}

        def check(network, event):
            for name in network.hosts():
                member = network.member(name)
                if member.waits_for() is None:
                    self.assertEqual(member.queue(), [])
                else:
                    path = member.relink()[0]
                    self.assertIn((name, member.waits_for()), [(path[0], path[-1]), (path[-1], path[0])])
            if event[0] == "deliver":
                goal = network.member(event[2])
                if len(goal.queue()) > len(queued.get(event[2], [])):
                    self.assertEqual(goal.waits_for(), event[1])
            queued.clear()
            queued.update({name: network.member(name).queue() for name in network.hosts()})

        for seed in range(730, 850):
            queued.clear()
            any_run(seed, LIVELY, check)

    def test_a_free_host_never_waits(self):
        def check(network, event):
            for name in network.hosts():
                member = network.member(name)
                if member.relink() is None:
                    self.assertEqual([member.phase(), member.waits_for(), member.queue()], ["free", None, []])

        runs(LIVELY, range(850, 900), check)


class Rest(NetworkCase):
    def check_rest(self, network):
        self.assertTrue(network.is_at_rest())
        answered = []
        for name in network.hosts():
            member = network.member(name)
            self.assertEqual(host_state(member)[3:7], (None, "free", None, []))
            answered += [("ask", *answer[:2]) for answer in member.answers()]
            self.assertLessEqual({answer[2] for answer in member.answers()}, {"done", "refused"})
        asked = [event for event in network.events() if event[0] == "ask" and event[1][0] in network.hosts()]
        self.assertEqual(sorted(answered), sorted(asked))
        ends = [(name, other) for name in network.hosts() for other in network.member(name).links()]
        self.assertEqual(len(ends), 2 * len(network) - 2)
        tree = Tree(network.hosts(), [pair for pair in ends if pair[0] < pair[1]])
        self.assertEqual(tree_at_rest(network), tree)

    def test_from_every_state_in_several_orders(self):
        outcomes = []
        for seed in range(900, 940):
            rng = random.Random(seed)

            def check(network, event):
                if rng.random() < 0.2:
                    for choices in [[], [rng.randrange(50) for _ in range(300)], [10 ** 9 - 1] * 300]:
                        twin = network.copied()
                        settle(twin, choices=choices)
                        self.check_rest(twin)

            network = any_run(seed, LIVELY, check)
            self.check_rest(network)
            outcomes += [answer[2] for name in network.hosts() for answer in network.member(name).answers()]
        self.assertGreater(outcomes.count("done"), 20)
        self.assertGreater(outcomes.count("refused"), 20)

    def test_an_ask_that_fits_and_meets_no_other_is_done(self):
        for seed in range(60):
            rng = random.Random(seed)
            tree = any_tree(rng, rng.randint(3, 8))
            one, other = rng.sample(tree.hosts(), 2)
            path = tree.path(one, other)
            if len(path) > 2:
                cut = rng.randrange(len(path) - 1)
                network = Network(tree)
                network.ask(path, cut)
                for number in range(15):
                    network.write(rng.choice(tree.hosts()), f"w{number}")
                    network.deliver(*rng.choice(network.busy()))
                settle(network, choices=[rng.randrange(50) for _ in range(100)])
                self.check_rest(network)
                self.assertEqual(network.member(one).answers(), [(path, cut, "done")])
                self.assertEqual(tree_at_rest(network), tree.relinked(path, cut))


class Links(NetworkCase):
    def test_a_message_crosses_as_many_links_as_there_are_other_hosts(self):
        done = 0
        for seed in range(1000, 1100):
            rng = random.Random(seed)
            network = Network(any_tree(rng, rng.randint(2, 7)))
            crossed = {}
            number = 0
            while number < 60 or network.busy():
                event = any_event(rng, network, number, QUIET if number < 60 else ["deliver"])
                if event[0] == "deliver":
                    item = network.do(event)
                    if item[0] == "message":
                        crossed[item[1:3]] = crossed.get(item[1:3], 0) + 1
                else:
                    try_event(network, event)
                number += 1
            self.assertEqual(crossed, {entry: len(network) - 1 for entry in written(network)})
            done += sum([answer[2] == "done" for name in network.hosts() for answer in network.member(name).answers()])
        self.assertGreater(done, 50)


class Independent(NetworkCase):
    def visit(self, network, check):
        """All states that deliveries lead to; returns the different ones at rest."""
        ends = []
        seen = {repr(state(network))}
        waiting = [network]
        while waiting:
            current = waiting.pop()
            check(current)
            if current.is_at_rest():
                ends.append(current)
            for pair in current.busy():
                twin = current.copied()
                twin.deliver(*pair)
                key = repr(state(twin))
                if key not in seen:
                    seen.add(key)
                    waiting.append(twin)
        return ends

    def test_relinks_on_different_hosts_in_every_order(self):
        for one in range(2):
            for other in range(2):
                network = network_on("abcdef")
                relinks = {"a": (("a", "b", "c"), one), "f": (("f", "e", "d"), other)}
                network.ask(*relinks["a"])
                network.ask(*relinks["f"])
                network.write("c", "x")
                together = []

                def check(current):
                    for name in current.hosts():
                        part = current.member(name).relink()
                        self.assertIn(part, [None, relinks["a" if name in "abc" else "f"]])
                    together.append([current.member(name).phase() for name in "bcde"])

                for end in self.visit(network, check):
                    self.assertEqual(end.member("a").answers(), [(*relinks["a"], "done")])
                    self.assertEqual(end.member("f").answers(), [(*relinks["f"], "done")])
                    expected = network.first_tree().relinked(*relinks["a"]).relinked(*relinks["f"])
                    self.assertEqual(tree_at_rest(end), expected)
                self.assertIn(["reserved", "turned", "turned", "reserved"], together)

    def test_relinks_with_common_hosts_in_every_order(self):
        network = network_on("abcd")
        network.ask(("a", "b", "c"), 1)
        network.ask(("d", "c", "b"), 1)
        trees = []

        def check(current):
            for name in current.hosts():
                part = current.member(name).relink()
                self.assertTrue(part is None or name in part[0])

        for end in self.visit(network, check):
            trees.append(tree_at_rest(end))
        expected = [network.first_tree(), network.first_tree().relinked(("a", "b", "c"), 1)]
        expected.append(network.first_tree().relinked(("d", "c", "b"), 1))
        for tree in trees:
            self.assertIn(tree, expected)
        for tree in expected:
            self.assertIn(tree, trees)

    def test_a_host_takes_part_in_one_relink_at_a_time(self):
        parts = {}

        def check(network, event):
            for name in network.hosts():
                member, before = network.member(name), parts.get(name, Host(name))
                if None not in (before.relink(), member.relink()) and before.relink() != member.relink():
                    # It was freed first, and an "ask" was next in its queue.
                    self.assertIn(("ask", *member.relink()), before.queue())
            parts.clear()
            parts.update({name: network.member(name) for name in network.hosts()})

        for seed in range(1200, 1300):
            parts.clear()
            any_run(seed, LIVELY, check)

    def test_a_host_of_a_relink_can_not_ask(self):
        refused = []

        def check(network, event):
            for name in network.hosts():
                if network.member(name).relink() is not None:
                    with self.assertRaises(Busy):
                        network.ask((name, "y", "z"), 0)
                    refused.append(name)
                else:
                    with self.assertRaises(NotLinked):
                        network.ask((name, "y", "z"), 0)

        runs(QUIET, range(1300, 1320), check)
        self.assertGreater(len(refused), 100)
