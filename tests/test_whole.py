"""The program as a whole: plans that are asked at a desk while messages are in flight and leaves come and go."""

import random

from relinktree.desk import Desk
from relinktree.errors import InvalidPlan
from relinktree.explore import explore
from relinktree.items import parse_item
from relinktree.pasts import log_indexes, message_pasts
from relinktree.plans import apply_plan, is_plan, plan
from relinktree.relinks import relink_text
from relinktree.reports import reason, whereabouts
from relinktree.runs import settle, tree_at_rest
from relinktree.texts import event_text, history_text, parse_event, parse_history, parse_tree, tree_text
from tests.network_support import any_run, any_tree, line, tree_of, whole
from tests.support import Case


def tree_command(tree):
    links = ",".join(["-".join(link) for link in tree.links()])
    return f"tree {','.join(tree.hosts())} {links or '-'}"


class PlansAtADesk(Case):
    def test_a_plan_step_by_step(self):
        for seed in range(25):
            rng = random.Random(seed)
            count = rng.randint(3, 9)
            self.follow_plan(rng, any_tree(rng, count), any_tree(rng, count))

    def follow_plan(self, rng, tree, goal):
        desk = Desk()
        desk.execute(tree_command(tree))
        relinks = plan(tree, goal)
        for number, (path, cut) in enumerate(relinks):
            leaf = "leaf" + "abcdefghij"[number]
            desk.execute(f"write {rng.choice(tree.hosts())} w{number}")
            desk.execute(f"ask {relink_text((path, cut))}")
            desk.execute(f"add {leaf} {rng.choice(tree.hosts())}")
            desk.execute(f"write {leaf} v{number}")
            self.deliver_some(rng, desk)
            desk.execute(f"write {path[-1]} u{number}")
            self.undo_and_do_again(desk, f"write {path[0]} t{number}")
            desk.execute("settle " + " ".join([str(rng.randrange(40)) for _ in range(20)]))
            self.assertEqual(desk.network().member(path[0]).answers()[-1], (path, cut, "done"))
            desk.execute(f"remove {leaf}")
            self.deliver_some(rng, desk)
        desk.execute("settle")
        self.check_end(desk, goal, len(relinks))

    def deliver_some(self, rng, desk):
        for _ in range(rng.randint(0, 6)):
            busy = desk.network().busy()
            if busy:
                source, goal = rng.choice(busy)
                first = desk.execute(f"flight {source} {goal}").split("; ")[0]
                self.assertEqual(desk.execute(f"deliver {source} {goal}"), first)
                self.assertEqual(parse_item(first)[0], first.split(" ")[0])

    def undo_and_do_again(self, desk, command):
        before = whole(desk.network())
        desk.execute(command)
        after = whole(desk.network())
        self.assertEqual(desk.execute("undo"), "ok")
        self.assertEqual(whole(desk.network()), before)
        desk.execute(command)
        self.assertEqual(whole(desk.network()), after)

    def check_end(self, desk, goal, count):
        network = desk.network()
        self.assertEqual(tree_at_rest(network), goal)
        self.assertEqual(desk.execute("hosts").split(" "), goal.hosts())
        for name in goal.hosts():
            self.assertEqual(len(network.member(name).log()), 4 * count)
            self.assertEqual(desk.execute(f"phase {name}"), "free")
            self.assertEqual(desk.execute(f"why {name}"), "-")
            self.assertEqual(desk.execute(f"queue {name}"), "-")
        text = history_text(network)
        again = parse_history(text)
        self.assertTrue(again == network)
        self.assertEqual(whole(again), whole(network))
        self.check_pasts(network)
        other = Desk()
        other.execute(tree_command(network.first_tree()))
        for event in network.events():
            other.execute(event_text(event))
        self.assertEqual(whole(other.network()), whole(network))

    def check_pasts(self, network):
        pasts = message_pasts(network.first_tree(), network.events())
        for name in network.hosts():
            indexes = log_indexes(network.first_tree(), network.events(), name)
            self.assertEqual([pasts[index][:2] for index in indexes], network.member(name).log())
            for at, index in enumerate(indexes):
                self.assertLessEqual(set(pasts[index][2]), set(indexes[:at]))


class TextsAndNetworks(Case):
    def test_texts_in_the_middle_of_everything(self):
        for seed in range(30):
            network = any_run(
                seed, ["write", "ask", "ask", "deliver", "deliver", "add", "remove"], lambda *_: None, to_rest=False
            )
            again = parse_history(history_text(network))
            for event in network.events():
                self.assertEqual(parse_event(event_text(event)), event)
            for name in network.hosts():
                self.assertEqual(reason(again, name), reason(network, name))
            for event in network.events():
                if event[0] == "write":
                    self.assertEqual(whereabouts(again, *event[1:]), whereabouts(network, *event[1:]))
            self.assertEqual(settle(again, choices=[3, 1, 4]), settle(network, choices=[3, 1, 4]))
            self.assertTrue(again == network)
            tree = tree_at_rest(network)
            self.assertEqual(parse_tree(tree_text(tree)), tree)

    def test_the_tree_at_rest_is_one_that_the_answers_lead_to(self):
        for seed in range(60):
            network = any_run(seed, ["write", "ask", "deliver", "deliver"], lambda *_: None)
            done = [answer[:2] for name in network.hosts() for answer in network.member(name).answers() if answer[2] == "done"]
            # In which order they were done is not known, but one after another they fit.
            self.assertTrue(self.leads_to(network.first_tree(), done, tree_at_rest(network)))

    def leads_to(self, tree, relinks, goal):
        if is_plan(tree, goal, relinks):
            return True
        for at, relink in enumerate(relinks):
            try:
                following = apply_plan(tree, [relink])
            except InvalidPlan:
                continue
            if self.leads_to(following, relinks[:at] + relinks[at + 1:], goal):
                return True
        return False


class ExplorationAndRuns(Case):
    def test_every_run_ends_in_an_outcome(self):
        tree = line("abc")
        scripts = {"a": [("write", "x"), ("ask", ("a", "b", "c"), 1)], "c": [("write", "y")], "b": [("write", "z")]}
        outcomes = explore(tree, scripts, limit=9999)[1]
        found = set()
        for seed in range(200):
            rng = random.Random(seed)
            desk = Desk()
            desk.execute(tree_command(tree))
            commands = [["write a x", "ask a,b,c 1"], ["write c y"], ["write b z"]]
            while any(commands) or desk.execute("rest") == "no":
                choices = [script for script in commands if script] + desk.network().busy()
                choice = rng.choice(choices)
                desk.execute(choice.pop(0) if isinstance(choice, list) else "deliver " + " ".join(choice))
            network = desk.network()
            logs = tuple((name, tuple(network.member(name).log())) for name in network.hosts())
            self.assertIn(logs, outcomes)
            self.assertEqual(tree_at_rest(network), tree_of("ab ac"))
            found.add(logs)
        self.assertGreater(len(found), len(outcomes) // 2)
