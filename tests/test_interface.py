"""The names, parameters and places of the interface."""

import inspect
import unittest

from relinktree import channels, desk, errors, explore, hosts, items, names, networks, pasts, plans, relinks, reports
from relinktree import roles, runs, texts, trees
from relinktree.channels import Channels
from relinktree.desk import Desk
from relinktree.hosts import Host
from relinktree.networks import Network
from relinktree.trees import Tree

FUNCTIONS = {
    names: {"is_host_name": "(value)", "is_word": "(value)"},
    relinks: {
        "is_relink": "(value)", "added_link": "(relink)", "removed_link": "(relink)", "position": "(relink, host)",
        "is_near": "(relink, host)", "are_independent": "(one, other)",
    },
    items: {"is_item": "(value)", "item_text": "(item)", "parse_item": "(text)"},
    roles: {
        "forward_bit": "(relink, host, phase, source, goal, bit)",
        "forwards": "(links, *, source=None, bit=0, relink=None, host=None, phase='reserved')",
        "control_step": "(relink, host, kind)",
    },
    runs: {"settle": "(network, *, choices=(), most=2000)", "tree_at_rest": "(network)"},
    pasts: {"message_pasts": "(tree, events)", "log_indexes": "(tree, events, host)"},
    reports: {
        "reason": "(network, host)", "is_reason": "(network, host, value)", "whereabouts": "(network, writer, word)",
    },
    plans: {"plan": "(tree, goal)", "apply_plan": "(tree, relinks)", "is_plan": "(tree, goal, value)"},
    explore: {"explore": "(tree, scripts, *, limit=2000)"},
    texts: {
        "tree_text": "(tree)", "parse_tree": "(text)", "event_text": "(event)", "parse_event": "(text)",
        "history_text": "(network)", "parse_history": "(text)",
    },
}

CLASSES = {trees: Tree, channels: Channels, hosts: Host, networks: Network, desk: Desk}

METHODS = {
    Tree: {
        "__init__": "(self, hosts, links=())", "hosts": "(self)", "links": "(self)", "leaves": "(self)",
        "neighbors": "(self, host)", "has_link": "(self, one, other)", "path": "(self, one, other)",
        "relinked": "(self, path, cut)", "__eq__": "(self, other)", "__len__": "(self)", "__repr__": "(self)",
    },
    Channels: {
        "__init__": "(self)", "put": "(self, source, goal, item)", "take": "(self, source, goal)",
        "in_flight": "(self, source, goal)", "busy": "(self)", "discard_to": "(self, goal)", "copied": "(self)",
        "__eq__": "(self, other)", "__len__": "(self)",
    },
    Host: {
        "__init__": "(self, name, *, links=(), log=())", "name": "(self)", "log": "(self)", "links": "(self)",
        "answers": "(self)", "relink": "(self)", "phase": "(self)", "waits_for": "(self)", "queue": "(self)",
        "write": "(self, word)", "ask": "(self, path, cut)", "receive": "(self, source, item)",
        "add_link": "(self, other)", "leave": "(self)", "copied": "(self)", "__eq__": "(self, other)",
        "__repr__": "(self)",
    },
    Network: {
        "__init__": "(self, tree)", "hosts": "(self)", "member": "(self, name)", "first_tree": "(self)",
        "busy": "(self)", "in_flight": "(self, source, goal)", "is_at_rest": "(self)", "write": "(self, host, word)",
        "ask": "(self, path, cut)", "deliver": "(self, source, goal)", "add_leaf": "(self, name, *, at)",
        "remove_leaf": "(self, host)", "do": "(self, event)", "events": "(self)", "copied": "(self)",
        "__eq__": "(self, other)", "__len__": "(self)",
    },
    Desk: {"__init__": "(self)", "execute": "(self, command)", "log": "(self)", "network": "(self)"},
}


class Places(unittest.TestCase):
    def test_functions_are_defined_in_their_files(self):
        for module, functions in FUNCTIONS.items():
            for name, parameters in functions.items():
                function = getattr(module, name)
                self.assertTrue(inspect.isfunction(function))
                self.assertEqual(function.__module__, module.__name__)
                self.assertEqual(str(inspect.signature(function)), parameters, name)

    def test_classes_are_defined_in_their_files(self):
        for module, kind in CLASSES.items():
            self.assertEqual(kind.__module__, module.__name__)
            self.assertIs(getattr(module, kind.__name__), kind)
        for name, value in vars(errors).items():
            if isinstance(value, type):
                self.assertEqual(value.__module__, "relinktree.errors", name)

    def test_methods_are_defined_in_the_class_itself(self):
        for kind, methods in METHODS.items():
            self.assertEqual(kind.__bases__, (object,))
            for name, parameters in methods.items():
                self.assertTrue(inspect.isfunction(vars(kind)[name]), name)
                self.assertEqual(str(inspect.signature(vars(kind)[name])), parameters, name)


class ArgumentsByName(unittest.TestCase):
    def test_functions(self):
        relink = (("a", "b", "c"), 1)
        self.assertIs(names.is_host_name(value="a"), True)
        self.assertIs(names.is_word(value="1"), True)
        self.assertIs(relinks.is_relink(value=relink), True)
        self.assertEqual(relinks.added_link(relink=relink), ("a", "c"))
        self.assertEqual(relinks.removed_link(relink=relink), ("b", "c"))
        self.assertEqual(relinks.position(host="c", relink=relink), 2)
        self.assertIs(relinks.is_near(host="b", relink=relink), True)
        self.assertIs(relinks.are_independent(other=(("d", "e", "f"), 0), one=relink), True)

    def test_functions_of_items_and_roles(self):
        relink = (("a", "b", "c"), 1)
        self.assertIs(items.is_item(value=("bye",)), True)
        self.assertEqual(items.item_text(item=("bye",)), "bye")
        self.assertEqual(items.parse_item(text="bye"), ("bye",))
        self.assertEqual(
            roles.forward_bit(bit=1, goal="a", source="b", phase="turned", host="c", relink=relink), 0
        )
        self.assertEqual(
            roles.forwards(phase="turned", host="c", relink=relink, bit=0, source="b", links=["a", "x"]), [("x", 0)]
        )
        self.assertEqual(
            roles.control_step(kind="no", host="b", relink=relink), ([("a", "no")], "free", None, None, None)
        )

    def test_methods_of_channels_and_hosts(self):
        channel = Channels()
        self.assertIsNone(channel.put(item=("bye",), goal="b", source="a"))
        self.assertEqual(channel.in_flight(goal="b", source="a"), [("bye",)])
        self.assertEqual(channel.take(goal="b", source="a"), ("bye",))
        self.assertEqual(channel.discard_to(goal="b"), 0)
        host = Host(log=[("c", "x")], links=["b"], name="a")
        self.assertEqual(host.write(word="hi"), [("b", ("message", "a", "hi", 0))])
        self.assertIsNone(host.add_link(other="c"))
        self.assertEqual(host.receive(item=("bye",), source="c"), [])
        self.assertEqual(host.ask(cut=1, path=("a", "b", "c")), [("b", ("ask", ("a", "b", "c"), 1))])

    def test_methods(self):
        tree = Tree(links=[("a", "b"), ("b", "c")], hosts=["a", "b", "c"])
        self.assertEqual(tree.neighbors(host="a"), ["b"])
        self.assertIs(tree.has_link(other="c", one="b"), True)
        self.assertEqual(tree.path(other="c", one="a"), ("a", "b", "c"))
        self.assertEqual(tree.relinked(cut=0, path=("a", "b", "c")).links(), [("a", "c"), ("b", "c")])
        self.assertEqual(Tree(hosts=["a"]).links(), [])

    def test_methods_of_networks(self):
        network = Network(tree=Tree(["a", "b"], [("a", "b")]))
        self.assertEqual(network.member(name="a").links(), ["b"])
        self.assertIsNone(network.write(word="hi", host="a"))
        self.assertEqual(network.in_flight(goal="b", source="a"), [("message", "a", "hi", 0)])
        self.assertEqual(network.deliver(goal="b", source="a"), ("message", "a", "hi", 0))
        self.assertIsNone(network.add_leaf(at="b", name="c"))
        self.assertIsNone(network.ask(cut=1, path=("a", "b", "c")))
        self.assertIsNone(network.remove_leaf(host="c"))
        self.assertIsNone(network.do(event=("write", "b", "x")))

    def test_functions_of_runs_pasts_and_reports(self):
        tree = Tree(["a", "b"], [("a", "b")])
        network = Network(tree)
        network.write("a", "x")
        self.assertEqual(reports.whereabouts(word="x", writer="a", network=network), ([("a", 1)], [("a", "b", 0)]))
        self.assertEqual(runs.settle(most=1, choices=[0], network=network), 1)
        self.assertEqual(runs.tree_at_rest(network=network), tree)
        self.assertEqual(pasts.message_pasts(events=network.events(), tree=tree), [("a", "x", ())])
        self.assertEqual(pasts.log_indexes(host="b", events=network.events(), tree=tree), [0])
        self.assertEqual(reports.reason(host="a", network=network), [])
        self.assertIs(reports.is_reason(value=[], host="a", network=network), True)

    def test_functions_of_plans_explore_and_texts(self):
        tree = Tree(["a", "b", "c"], [("a", "b"), ("b", "c")])
        goal = tree.relinked(("a", "b", "c"), 1)
        relinks_to_goal = plans.plan(goal=goal, tree=tree)
        self.assertEqual(plans.apply_plan(relinks=relinks_to_goal, tree=tree), goal)
        self.assertIs(plans.is_plan(value=relinks_to_goal, goal=goal, tree=tree), True)
        self.assertEqual(explore.explore(limit=4, scripts={"a": [("write", "x")]}, tree=tree)[0], 4)
        self.assertEqual(texts.parse_tree(text=texts.tree_text(tree=tree)), tree)
        self.assertEqual(texts.parse_event(text=texts.event_text(event=("remove", "a"))), ("remove", "a"))
        self.assertEqual(texts.parse_history(text=texts.history_text(network=Network(tree))), Network(tree))

    def test_methods_of_desks(self):
        self.assertEqual(Desk().execute(command="tree a -"), "ok")
