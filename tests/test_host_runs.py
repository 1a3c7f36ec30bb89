"""The guarantees, for hosts that pass their items to each other in every order, or in many orders, of deliveries."""

import random

from relinktree.errors import Busy, NotALeaf, NotLinked
from relinktree.trees import Tree
from tests.support import Case, World

LINE = [("a", "b"), ("b", "c"), ("c", "d")]
STAR = [("a", "b"), ("a", "c"), ("a", "d")]
NAMES = ["a", "b", "c", "d", "e", "f", "g"]


class Guarantees(Case):
    """Checks of [19] for one state of a world whose messages all have different words."""

    def check_state(self, world):
        for name, host in world.hosts.items():
            self.check_log(world, host.log())
            self.check_barrier(name, host)

    def check_log(self, world, log):
        """ONCE and CAUSAL."""
        places = {message: at for at, message in enumerate(log)}
        self.assertEqual(len(places), len(log), log)
        for at, message in enumerate(log):
            for earlier in world.pasts[message]:
                self.assertLess(places.get(earlier, len(log)), at, (log, earlier, message))

    def check_barrier(self, name, host):
        """NOBODY WAITS, and a free host never waits."""
        if host.relink() is None:
            self.assertEqual([host.phase(), host.waits_for(), host.queue()], ["free", None, []])
            return
        path = host.relink()[0]
        self.assertIn(host.phase(), ["reserved", "turned"])
        other_ends = {path[0]: path[-1], path[-1]: path[0]}
        self.assertEqual(host.waits_for(), other_ends.get(name))
        if name not in other_ends:
            self.assertEqual(host.queue(), [])

    def check_rest(self, world):
        """REST, and the same messages in all logs."""
        messages = sorted(next(iter(world.hosts.values())).log())
        links = []
        for name, host in world.hosts.items():
            self.assertEqual([host.phase(), host.relink(), host.waits_for(), host.queue()], ["free", None, None, []])
            self.assertEqual(sorted(host.log()), messages)
            self.assertEqual([answer[:2] for answer in host.answers()], world.asks[name])
            links += [(name, other) for other in host.links()]
        if not world.has_lost_a_host:
            self.assertEqual(messages, sorted(world.pasts))
        tree = Tree(sorted(world.hosts), world.links())
        self.assertEqual(len(links), 2 * (len(tree) - 1))

    def do(self, world, action):
        """Does an action of a script; one that the host refuses does nothing."""
        try:
            getattr(world, action[0])(*action[1:])
        except (Busy, NotLinked, NotALeaf):
            pass


class EveryOrder(Guarantees):
    def visit_all(self, links, scripts):
        """Checks all states that can be reached; returns how many there are and the links at rest."""
        start = (World(links), tuple(tuple(script) for script in scripts))
        seen = {(start[0].state(), start[1])}
        waiting = [start]
        trees = set()
        while waiting:
            world, left = waiting.pop()
            self.check_state(world)
            if not world.channels.busy() and not any(left):
                self.check_rest(world)
                trees.add(tuple(world.links()))
            for following in self.steps(world, left):
                key = (following[0].state(), following[1])
                if key not in seen:
                    seen.add(key)
                    waiting.append(following)
        return len(seen), trees

    def steps(self, world, left):
        """The worlds after each next action and after each delivery, with the actions that are left then."""
        for index, script in enumerate(left):
            if script:
                twin = world.copied()
                self.do(twin, script[0])
                yield twin, left[:index] + (script[1:],) + left[index + 1:]
        for source, goal in world.channels.busy():
            twin = world.copied()
            twin.deliver(source, goal)
            yield twin, left

    def test_a_relink_of_three_hosts_while_each_of_them_writes(self):
        for cut, tree in [(0, (("a", "c"), ("b", "c"))), (1, (("a", "b"), ("a", "c")))]:
            scripts = [[("ask", ("a", "b", "c"), cut)], [("write", "a", "x")], [("write", "b", "y")], [("write", "c", "z")]]
            count, trees = self.visit_all([("a", "b"), ("b", "c")], scripts)
            self.assertEqual(trees, {tree})
            self.assertGreater(count, 1000)

    def test_a_relink_of_four_hosts_while_two_of_them_write(self):
        for cut in range(3):
            for writers in ["ad", "bc"]:
                scripts = [[("ask", ("a", "b", "c", "d"), cut)]] + [[("write", name, name)] for name in writers]
                trees = self.visit_all(LINE, scripts)[1]
                self.assertEqual(len(trees), 1)

    def test_two_asks_with_common_hosts(self):
        scripts = [[("ask", ("a", "b", "c"), 1)], [("ask", ("c", "b", "a"), 1)], [("write", "b", "x")]]
        trees = self.visit_all([("a", "b"), ("b", "c")], scripts)[1]
        self.assertEqual(len(trees), 3)

    def test_a_relink_and_a_leaf_that_leaves(self):
        for cut in (0, 1):
            scripts = [[("ask", ("a", "b", "c"), cut)], [("remove", "c")], [("write", "a", "x"), ("write", "b", "y")]]
            self.visit_all([("a", "b"), ("b", "c")], scripts)

    def test_a_relink_and_a_leaf_that_joins(self):
        for at in "abc":
            scripts = [[("ask", ("a", "b", "c"), 1)], [("add", "n", at), ("write", "n", "x")], [("write", "a", "y")]]
            self.visit_all([("a", "b"), ("b", "c")], scripts)

    def test_relinks_one_after_the_other(self):
        scripts = [[("ask", ("a", "b", "c"), 1), ("ask", ("a", "c", "b"), 0)], [("write", "b", "x")], [("write", "c", "y")]]
        self.visit_all([("a", "b"), ("b", "c")], scripts)


class ManyOrders(Guarantees):
    def chosen_action(self, world, rng, number):
        """A write, an ask along the links, any ask, a leaf that joins or one that leaves."""
        name = rng.choice(sorted(world.hosts))
        kind = rng.choice(["write", "ask", "ask", "any", "add", "remove"])
        if kind == "write":
            return ("write", name, f"w{number}")
        if kind == "add" and len(world.hosts) < 12:
            return ("add", "n" + NAMES[number // 7] + NAMES[number % 7], name)
        if kind == "remove" and len(world.hosts) > 1:
            return ("remove", name)
        path = self.chosen_path(world, rng, name, kind)
        if len(path) < 3:
            return ("write", name, f"w{number}")
        return ("ask", path, rng.randrange(len(path) - 1))

    def chosen_path(self, world, rng, name, kind):
        path = [name]
        for _ in range(rng.randint(2, 5)):
            others = sorted(world.hosts) if kind == "any" else world.hosts[path[-1]].links()
            others = [other for other in others if other in world.hosts and other not in path]
            path += [rng.choice(others)] if others else []
        return tuple(path)

    def run_once(self, seed, kinds):
        """Actions and deliveries in an order that the seed chooses, then deliveries until rest."""
        rng = random.Random(seed)
        hosts = NAMES[:rng.randint(2, 7)]
        world = World([(name, hosts[rng.randrange(at + 1)]) for at, name in enumerate(hosts[1:])])
        for number in range(30):
            action = self.chosen_action(world, rng, number)
            if action[0] in kinds:
                self.do(world, action)
            for _ in range(rng.randint(0, 5)):
                if world.channels.busy():
                    world.deliver(*rng.choice(world.channels.busy()))
            self.check_state(world)
        while world.channels.busy():
            world.deliver(*rng.choice(world.channels.busy()))
            self.check_state(world)
        self.check_rest(world)
        return [answer[2] for host in world.hosts.values() for answer in host.answers()]

    def test_writes_and_relinks(self):
        outcomes = []
        for seed in range(300):
            outcomes += self.run_once(seed, ["write", "ask"])
        self.assertGreater(outcomes.count("done"), 300)
        self.assertGreater(outcomes.count("refused"), 300)

    def test_leaves_that_join_and_leave_too(self):
        outcomes = []
        for seed in range(1000, 1400):
            outcomes += self.run_once(seed, ["write", "ask", "add", "remove"])
        self.assertGreater(outcomes.count("done"), 300)
        self.assertGreater(outcomes.count("refused"), 300)


class ChosenOrders(Guarantees):
    def test_every_relink_of_a_line_and_a_star_while_all_write(self):
        for links in [LINE, STAR]:
            tree = Tree(["a", "b", "c", "d"], links)
            for one in tree.hosts():
                for other in tree.hosts():
                    path = tree.path(one, other)
                    for cut in range(len(path) - 1 if len(path) > 2 else 0):
                        for choose in [min, max, lambda pairs: min(pairs, key=lambda pair: pair[::-1])]:
                            self.check_relink(tree, path, cut, choose)

    def check_relink(self, tree, path, cut, choose):
        """All write before the ask, and again after each delivery; the relink is done all the same."""
        world = World(tree.links())
        for name in tree.hosts():
            world.write(name, "w0" + name)
        world.ask(path, cut)
        count = 0
        while world.channels.busy():
            world.deliver(*choose(world.channels.busy()))
            count += 1
            if count <= 12:
                name = tree.hosts()[count % 4]
                world.write(name, f"w{count}")
            self.check_state(world)
        self.check_rest(world)
        self.assertEqual(world.hosts[path[0]].answers(), [(path, cut, "done")])
        self.assertEqual(world.links(), tree.relinked(path, cut).links())

    def test_each_message_crosses_each_link_of_a_tree_once(self):
        world = World(LINE)
        world.ask(("a", "b", "c", "d"), 1)
        deliveries = {}
        for number in range(20):
            world.write("abcd"[number % 4], f"w{number}")
            for source, goal in world.channels.busy()[:2]:
                item = world.deliver(source, goal)
                deliveries[item] = deliveries.get(item, 0) + 1
        while world.channels.busy():
            item = world.deliver(*world.channels.busy()[-1])
            deliveries[item] = deliveries.get(item, 0) + 1
        self.assertEqual(world.hosts["a"].answers(), [(("a", "b", "c", "d"), 1, "done")])
        for writer, word in world.pasts:
            crossed = [deliveries.get(("message", writer, word, bit), 0) for bit in (0, 1)]
            self.assertEqual(sum(crossed), 3, (writer, word))
