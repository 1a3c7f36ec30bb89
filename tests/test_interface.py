"""The names, parameters and places of the interface."""

import inspect
import unittest

from relinktree import channels, errors, hosts, items, names, relinks, roles, trees
from relinktree.channels import Channels
from relinktree.hosts import Host
from relinktree.trees import Tree

FUNCTIONS = {
    names: {"is_host_name": "(value)", "is_word": "(value)"},
    relinks: {
        "is_relink": "(value)", "added_link": "(relink)", "removed_link": "(relink)", "position": "(relink, host)",
        "is_near": "(relink, host)", "are_independent": "(one, other)",
    },
    items: {"is_item": "(value)", "item_text": "(item)", "parse_item": "(text)"},
    roles: {
        "forward_bit": "(relink, host, phase, source, goal, bit)",
        "forwards": "(links, *, source=None, bit=0, relink=None, host=None, phase='reserved')",
        "control_step": "(relink, host, kind)",
    },
}

CLASSES = {trees: Tree, channels: Channels, hosts: Host}

METHODS = {
    Tree: {
        "__init__": "(self, hosts, links=())", "hosts": "(self)", "links": "(self)", "leaves": "(self)",
        "neighbors": "(self, host)", "has_link": "(self, one, other)", "path": "(self, one, other)",
        "relinked": "(self, path, cut)", "__eq__": "(self, other)", "__len__": "(self)", "__repr__": "(self)",
    },
    Channels: {
        "__init__": "(self)", "put": "(self, source, goal, item)", "take": "(self, source, goal)",
        "in_flight": "(self, source, goal)", "busy": "(self)", "discard_to": "(self, goal)", "copied": "(self)",
        "__eq__": "(self, other)", "__len__": "(self)",
    },
    Host: {
        "__init__": "(self, name, *, links=(), log=())", "name": "(self)", "log": "(self)", "links": "(self)",
        "answers": "(self)", "relink": "(self)", "phase": "(self)", "waits_for": "(self)", "queue": "(self)",
        "write": "(self, word)", "ask": "(self, path, cut)", "receive": "(self, source, item)",
        "add_link": "(self, other)", "leave": "(self)", "copied": "(self)", "__eq__": "(self, other)",
        "__repr__": "(self)",
    },
}


class Places(unittest.TestCase):
    def test_functions_are_defined_in_their_files(self):
        for module, functions in FUNCTIONS.items():
            for name, parameters in functions.items():
                function = getattr(module, name)
                self.assertTrue(inspect.isfunction(function))
                self.assertEqual(function.__module__, module.__name__)
                self.assertEqual(str(inspect.signature(function)), parameters, name)

    def test_classes_are_defined_in_their_files(self):
        for module, kind in CLASSES.items():
            self.assertEqual(kind.__module__, module.__name__)
            self.assertIs(getattr(module, kind.__name__), kind)
        for name, value in vars(errors).items():
            if isinstance(value, type):
                self.assertEqual(value.__module__, "relinktree.errors", name)

    def test_methods_are_defined_in_the_class_itself(self):
        for kind, methods in METHODS.items():
            self.assertEqual(kind.__bases__, (object,))
            for name, parameters in methods.items():
                self.assertTrue(inspect.isfunction(vars(kind)[name]), name)
                self.assertEqual(str(inspect.signature(vars(kind)[name])), parameters, name)


class ArgumentsByName(unittest.TestCase):
    def test_functions(self):
        relink = (("a", "b", "c"), 1)
        self.assertIs(names.is_host_name(value="a"), True)
        self.assertIs(names.is_word(value="1"), True)
        self.assertIs(relinks.is_relink(value=relink), True)
        self.assertEqual(relinks.added_link(relink=relink), ("a", "c"))
        self.assertEqual(relinks.removed_link(relink=relink), ("b", "c"))
        self.assertEqual(relinks.position(host="c", relink=relink), 2)
        self.assertIs(relinks.is_near(host="b", relink=relink), True)
        self.assertIs(relinks.are_independent(other=(("d", "e", "f"), 0), one=relink), True)

    def test_functions_of_items_and_roles(self):
        relink = (("a", "b", "c"), 1)
        self.assertIs(items.is_item(value=("bye",)), True)
        self.assertEqual(items.item_text(item=("bye",)), "bye")
        self.assertEqual(items.parse_item(text="bye"), ("bye",))
        self.assertEqual(
            roles.forward_bit(bit=1, goal="a", source="b", phase="turned", host="c", relink=relink), 0
        )
        self.assertEqual(
            roles.forwards(phase="turned", host="c", relink=relink, bit=0, source="b", links=["a", "x"]), [("x", 0)]
        )
        self.assertEqual(
            roles.control_step(kind="no", host="b", relink=relink), ([("a", "no")], "free", None, None, None)
        )

    def test_methods_of_channels_and_hosts(self):
        channel = Channels()
        self.assertIsNone(channel.put(item=("bye",), goal="b", source="a"))
        self.assertEqual(channel.in_flight(goal="b", source="a"), [("bye",)])
        self.assertEqual(channel.take(goal="b", source="a"), ("bye",))
        self.assertEqual(channel.discard_to(goal="b"), 0)
        host = Host(log=[("c", "x")], links=["b"], name="a")
        self.assertEqual(host.write(word="hi"), [("b", ("message", "a", "hi", 0))])
        self.assertIsNone(host.add_link(other="c"))
        self.assertEqual(host.receive(item=("bye",), source="c"), [])
        self.assertEqual(host.ask(cut=1, path=("a", "b", "c")), [("b", ("ask", ("a", "b", "c"), 1))])

    def test_methods(self):
        tree = Tree(links=[("a", "b"), ("b", "c")], hosts=["a", "b", "c"])
        self.assertEqual(tree.neighbors(host="a"), ["b"])
        self.assertIs(tree.has_link(other="c", one="b"), True)
        self.assertEqual(tree.path(other="c", one="a"), ("a", "b", "c"))
        self.assertEqual(tree.relinked(cut=0, path=("a", "b", "c")).links(), [("a", "c"), ("b", "c")])
        self.assertEqual(Tree(hosts=["a"]).links(), [])
