"""The names, parameters and places of the interface."""

import inspect
import unittest

from relinktree import errors, names, relinks, trees
from relinktree.trees import Tree

FUNCTIONS = {
    names: {"is_host_name": "(value)", "is_word": "(value)"},
    relinks: {
        "is_relink": "(value)", "added_link": "(relink)", "removed_link": "(relink)", "position": "(relink, host)",
        "is_near": "(relink, host)", "are_independent": "(one, other)",
    },
}

METHODS = {
    "__init__": "(self, hosts, links=())", "hosts": "(self)", "links": "(self)", "leaves": "(self)",
    "neighbors": "(self, host)", "has_link": "(self, one, other)", "path": "(self, one, other)",
    "relinked": "(self, path, cut)", "__eq__": "(self, other)", "__len__": "(self)", "__repr__": "(self)",
}


class Places(unittest.TestCase):
    def test_functions_are_defined_in_their_files(self):
        for module, functions in FUNCTIONS.items():
            for name, parameters in functions.items():
                function = getattr(module, name)
                self.assertTrue(inspect.isfunction(function))
                self.assertEqual(function.__module__, module.__name__)
                self.assertEqual(str(inspect.signature(function)), parameters, name)

    def test_classes_are_defined_in_their_files(self):
        self.assertEqual(Tree.__module__, "relinktree.trees")
        for name, value in vars(errors).items():
            if isinstance(value, type):
                self.assertEqual(value.__module__, "relinktree.errors", name)

    def test_methods_are_defined_in_the_class_itself(self):
        self.assertEqual(Tree.__bases__, (object,))
        for name, parameters in METHODS.items():
            self.assertTrue(inspect.isfunction(vars(Tree)[name]), name)
            self.assertEqual(str(inspect.signature(vars(Tree)[name])), parameters, name)
        self.assertIs(trees.Tree, Tree)


class ArgumentsByName(unittest.TestCase):
    def test_functions(self):
        relink = (("a", "b", "c"), 1)
        self.assertIs(names.is_host_name(value="a"), True)
        self.assertIs(names.is_word(value="1"), True)
        self.assertIs(relinks.is_relink(value=relink), True)
        self.assertEqual(relinks.added_link(relink=relink), ("a", "c"))
        self.assertEqual(relinks.removed_link(relink=relink), ("b", "c"))
        self.assertEqual(relinks.position(host="c", relink=relink), 2)
        self.assertIs(relinks.is_near(host="b", relink=relink), True)
        self.assertIs(relinks.are_independent(other=(("d", "e", "f"), 0), one=relink), True)

    def test_methods(self):
        tree = Tree(links=[("a", "b"), ("b", "c")], hosts=["a", "b", "c"])
        self.assertEqual(tree.neighbors(host="a"), ["b"])
        self.assertIs(tree.has_link(other="c", one="b"), True)
        self.assertEqual(tree.path(other="c", one="a"), ("a", "b", "c"))
        self.assertEqual(tree.relinked(cut=0, path=("a", "b", "c")).links(), [("a", "c"), ("b", "c")])
        self.assertEqual(Tree(hosts=["a"]).links(), [])
