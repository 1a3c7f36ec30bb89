"""Plans: shortest ones between trees, the tree after a plan, and which values are plans."""

import itertools
import random

from relinktree.errors import InvalidPlan, InvalidTree
from relinktree.networks import Network
from relinktree.plans import apply_plan, is_plan, plan
from relinktree.relinks import is_relink
from relinktree.runs import settle, tree_at_rest
from relinktree.trees import Tree
from tests.network_support import NO_LISTS, any_tree, line, tree_of
from tests.support import NO_RELINKS, Case, Impostor, all_link_lists

TREE = line("abcd")
FIRST = (("a", "b", "c"), 1)
SECOND = (("b", "a", "c", "d"), 2)


def missing(tree, goal):
    """How many links of the tree the goal lacks."""
    return len(set(tree.links()) - set(goal.links()))


class Planning(Case):
    def check_plan(self, tree, goal):
        relinks = plan(tree, goal)
        self.assertIs(type(relinks), list)
        self.assertEqual(len(relinks), missing(tree, goal))
        current = tree
        for relink in relinks:
            self.assertTrue(is_relink(relink))
            # Raises an error if it does not fit.
            current = current.relinked(*relink)
        self.assertEqual(current, goal)
        self.assertEqual(apply_plan(tree, relinks), goal)
        self.assertTrue(is_plan(tree, goal, relinks))
        return relinks

    def test_all_pairs_of_trees_of_up_to_four_hosts(self):
        for names in ["a", "ab", "abc", "abcd"]:
            trees = [Tree(list(names), links) for links in all_link_lists(names)]
            self.assertEqual(len(trees), {1: 1, 2: 1, 3: 3, 4: 16}[len(names)])
            for tree, goal in itertools.product(trees, repeat=2):
                self.check_plan(tree, goal)

    def test_equal_trees(self):
        self.assertEqual(plan(TREE, TREE), [])
        self.assertEqual(plan(Tree(["a"]), Tree(["a"])), [])
        self.assertEqual(plan(line("abcd"), line("dcba")), [])

    def test_trees_that_have_no_common_link(self):
        names = "abcdefghijk"
        goal = line("acegikbdfhj")
        self.assertEqual(len(self.check_plan(line(names), goal)), missing(line(names), goal))
        star = Tree(list(names), [("f", name) for name in names if name != "f"])
        self.assertEqual(len(self.check_plan(line(names), star)), 8)
        self.assertEqual(len(self.check_plan(star, line(names))), 8)
        other = Tree(list(names), [("a", name) for name in names if name != "a"])
        self.assertEqual(len(self.check_plan(star, other)), 9)

    def test_trees_of_up_to_eleven_hosts(self):
        for seed in range(200):
            rng = random.Random(seed)
            count = rng.randint(1, 11)
            self.check_plan(any_tree(rng, count), any_tree(rng, count))

    def test_trees_that_are_alike(self):
        for seed in range(100):
            rng = random.Random(seed)
            tree = goal = any_tree(rng, rng.randint(3, 11))
            for _ in range(3):
                path = goal.path(*rng.sample(goal.hosts(), 2))
                if len(path) > 2:
                    goal = goal.relinked(path, rng.randrange(len(path) - 1))
            self.assertLessEqual(len(self.check_plan(tree, goal)), 3)

    def test_no_plan_is_shorter(self):
        trees = [Tree(list("abcd"), links) for links in all_link_lists("abcd")]
        for tree in trees:
            reached = [tree]
            for steps in range(4):
                for goal in trees:
                    self.assertEqual(goal in reached, len(plan(tree, goal)) <= steps)
                reached = [goal for goal in trees if any(goal in self.after_one(other) for other in reached)] + reached

    def after_one(self, tree):
        """The trees after one relink, and the tree itself."""
        paths = [tree.path(one, other) for one, other in itertools.permutations(tree.hosts(), 2)]
        return [tree] + [tree.relinked(path, cut) for path in paths if len(path) > 2 for cut in range(len(path) - 1)]

    def test_other_hosts(self):
        for goal in [line("abc"), line("abcde"), line("abce"), Tree(["a"]), line("zyx")]:
            self.assert_error(InvalidTree, {"reason": "hosts", "value": goal.hosts()}, plan, TREE, goal)
        self.assert_error(InvalidTree, {"reason": "hosts", "value": ["a", "b", "c", "d"]}, plan, Tree(["a"]), goal=TREE)

    def test_the_hosts_of_the_error_belong_to_the_caller(self):
        goal = line("abc")
        with self.assertRaises(InvalidTree) as caught:
            plan(TREE, goal)
        caught.exception.value.clear()
        self.assertEqual(goal.hosts(), ["a", "b", "c"])

    def test_the_list_belongs_to_the_caller_and_is_the_same_again(self):
        tree, goal = line("abcde"), line("acebd")
        first = plan(tree=tree, goal=goal)
        copy = list(first)
        first.clear()
        self.assertEqual(plan(tree, goal), copy)
        self.assertEqual([tree, goal], [line("abcde"), line("acebd")])

    def test_a_plan_can_be_asked_step_by_step(self):
        for seed in range(20):
            rng = random.Random(seed)
            count = rng.randint(3, 9)
            tree, goal = any_tree(rng, count), any_tree(rng, count)
            network = Network(tree)
            for path, cut in plan(tree, goal):
                network.ask(path, cut)
                network.write(rng.choice(tree.hosts()), "x")
                settle(network, choices=[rng.randrange(30) for _ in range(50)])
            self.assertEqual(tree_at_rest(network), goal)


class Applying(Case):
    def test_a_list_and_a_tuple(self):
        self.assertEqual(apply_plan(TREE, [FIRST]), tree_of("ab ac cd"))
        self.assertEqual(apply_plan(TREE, (FIRST,)), tree_of("ab ac cd"))
        self.assertEqual(apply_plan(relinks=[FIRST, SECOND], tree=TREE), tree_of("ab ac bd"))
        self.assertEqual(apply_plan(TREE, []), TREE)
        self.assertEqual(apply_plan(TREE, ()), TREE)
        self.assertEqual(apply_plan(Tree(["a"]), []), Tree(["a"]))

    def test_the_tree_stays_as_it_is(self):
        relinks = [FIRST, SECOND]
        apply_plan(TREE, relinks)
        self.assertEqual([TREE, relinks], [line("abcd"), [FIRST, SECOND]])

    def test_values_that_are_no_list_or_tuple(self):
        for value in NO_LISTS:
            self.assert_error(InvalidPlan, {"index": None}, apply_plan, TREE, value)

    def test_elements_that_are_no_relinks(self):
        for value in NO_RELINKS:
            self.assert_error(InvalidPlan, {"index": 0}, apply_plan, TREE, [value])
            self.assert_error(InvalidPlan, {"index": 0}, apply_plan, TREE, (value, value))
            self.assert_error(InvalidPlan, {"index": 1}, apply_plan, TREE, [FIRST, value])
            self.assert_error(InvalidPlan, {"index": 2}, apply_plan, TREE, (FIRST, SECOND, value, FIRST))

    def test_a_relink_instead_of_a_list_of_relinks(self):
        self.assert_error(InvalidPlan, {"index": 0}, apply_plan, TREE, FIRST)

    def test_relinks_that_do_not_fit(self):
        for wrong in [(("a", "c", "b"), 0), (("a", "b", "d"), 1), (("z", "a", "b"), 0), (("b", "c", "z"), 0), SECOND]:
            self.assert_error(InvalidPlan, {"index": 0}, apply_plan, TREE, [wrong])
        self.assert_error(InvalidPlan, {"index": 1}, apply_plan, TREE, [FIRST, FIRST])
        self.assert_error(InvalidPlan, {"index": 0}, apply_plan, TREE, [SECOND, FIRST])
        self.assert_error(InvalidPlan, {"index": 2}, apply_plan, TREE, [FIRST, SECOND, FIRST, None])


class Judging(Case):
    def setUp(self):
        self.goal = tree_of("ab ac bd")

    def test_plans(self):
        self.assertIs(is_plan(TREE, self.goal, [FIRST, SECOND]), True)
        self.assertIs(is_plan(TREE, self.goal, (FIRST, SECOND)), True)
        self.assertIs(is_plan(value=[], tree=TREE, goal=TREE), True)
        self.assertIs(is_plan(TREE, TREE, ()), True)

    def test_a_plan_need_not_be_shortest(self):
        there, back = (("a", "b", "c"), 1), (("b", "a", "c"), 1)
        self.assertTrue(is_plan(TREE, TREE, [there, back]))
        self.assertTrue(is_plan(TREE, TREE, [there, back] * 3))
        self.assertTrue(is_plan(TREE, self.goal, [there, back, FIRST, SECOND]))

    def test_relinks_that_lead_elsewhere(self):
        for value in [[], (), [FIRST], [FIRST, SECOND, (("c", "a", "b"), 0)], [(("a", "b", "c"), 0)]]:
            self.assertIs(is_plan(TREE, self.goal, value), False)

    def test_left_out_repeated_and_exchanged(self):
        for value in [[SECOND], [SECOND, FIRST], [FIRST, FIRST, SECOND], [FIRST, SECOND, SECOND], [FIRST, SECOND, FIRST]]:
            self.assertIs(is_plan(TREE, self.goal, value), False)

    def test_other_cuts_and_paths(self):
        for seed in range(40):
            rng = random.Random(seed)
            count = rng.randint(4, 11)
            tree, goal = any_tree(rng, count), any_tree(rng, count)
            relinks = plan(tree, goal)
            for at, (path, cut) in enumerate(relinks):
                for other in range(len(path) - 1):
                    changed = relinks[:at] + [(path, other)] + relinks[at + 1:]
                    self.assertEqual(is_plan(tree, goal, changed), self.leads_to(tree, goal, changed))
                turned = (path[::-1], len(path) - 2 - cut)
                self.assertTrue(is_plan(tree, goal, relinks[:at] + [turned] + relinks[at + 1:]))
                self.assertFalse(is_plan(tree, goal, relinks[:at] + relinks[at + 1:]))
                for wrong in [(path, -1), (path, len(path) - 1), (path[:-1], cut), (path[1:], 0), (list(path), cut)]:
                    changed = relinks[:at] + [wrong] + relinks[at + 1:]
                    self.assertEqual(is_plan(tree, goal, changed), self.leads_to(tree, goal, changed))

    def leads_to(self, tree, goal, relinks):
        """Counts the links of the hosts by hand."""
        links = {frozenset(link) for link in tree.links()}
        for path, cut in relinks:
            steps = [frozenset(step) for step in zip(path, path[1:])]
            if not isinstance(path, tuple) or len(path) < 3 or not 0 <= cut < len(steps) or not set(steps) <= links:
                return False
            links = links - {steps[cut]} | {frozenset([path[0], path[-1]])}
        return links == {frozenset(link) for link in goal.links()}

    def test_trees_of_other_hosts(self):
        self.assertIs(is_plan(TREE, line("abc"), []), False)
        self.assertIs(is_plan(TREE, line("abce"), [FIRST]), False)

    def test_values_of_any_kind(self):
        for value in NO_LISTS + [FIRST, [FIRST, None], [FIRST, list(SECOND)], "ab", Impostor(), [Impostor()], [FIRST, Impostor()]]:
            self.assertIs(is_plan(TREE, self.goal, value), False)
            self.assertIs(is_plan(TREE, TREE, value), False)
        for value in NO_RELINKS:
            self.assertIs(is_plan(TREE, self.goal, [FIRST, SECOND, value]), False)
            self.assertIs(is_plan(TREE, TREE, (value,)), False)
