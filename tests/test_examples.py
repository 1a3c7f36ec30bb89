"""The examples of the document for the files that are there, as they stand."""

import unittest

from relinktree import errors

# Each example ends with what its last line returns, or with the error that it raises.
EXAMPLES = r'''
>>> from relinktree.errors import Busy
>>> Busy("a").host
'a'

>>> from relinktree.names import is_host_name
>>> [is_host_name("abc"), is_host_name("a1"), is_host_name("")]
[True, False, False]

>>> from relinktree.names import is_word
>>> [is_word("v2"), is_word("V2"), is_word(None)]
[True, False, False]

>>> from relinktree.trees import Tree
>>> tree = Tree(["b", "a"], [("b", "a")])
>>> [repr(tree), len(tree), tree == Tree(["a", "b"], [("a", "b")])]
["Tree(['a', 'b'], [('a', 'b')])", 2, True]

>>> from relinktree.trees import Tree
>>> Tree(["a", "b"])
raises InvalidTree(reason='connected', value='b')

>>> from relinktree.trees import Tree
>>> tree = Tree(["a", "b", "c"], [("c", "b"), ("b", "a")])
>>> [tree.hosts(), tree.links(), tree.leaves()]
[['a', 'b', 'c'], [('a', 'b'), ('b', 'c')], ['a', 'c']]

>>> from relinktree.trees import Tree
>>> Tree(["a", "b", "c"], [("a", "b"), ("b", "c")]).neighbors("b")
['a', 'c']

>>> from relinktree.trees import Tree
>>> tree = Tree(["a", "b", "c"], [("a", "b"), ("b", "c")])
>>> [tree.has_link("b", "a"), tree.has_link("a", "c"), tree.has_link("a", None)]
[True, False, False]

>>> from relinktree.trees import Tree
>>> Tree(["a", "b", "c"], [("a", "b"), ("b", "c")]).path("c", "a")
('c', 'b', 'a')

>>> from relinktree.trees import Tree
>>> Tree(["a", "b", "c"], [("a", "b"), ("b", "c")]).relinked(("a", "b", "c"), 1).links()
[('a', 'b'), ('a', 'c')]

>>> from relinktree.relinks import is_relink
>>> [is_relink((("a", "b", "c"), 1)), is_relink((("a", "b", "c"), 2)), is_relink((("a", "b"), 0))]
[True, False, False]

>>> from relinktree.relinks import added_link, removed_link
>>> relink = (("d", "c", "b", "a"), 0)
>>> [added_link(relink), removed_link(relink)]
[('a', 'd'), ('c', 'd')]

>>> from relinktree.relinks import position
>>> position((("d", "c", "b"), 0), "b")
2

>>> from relinktree.relinks import is_near
>>> [is_near((("d", "c", "b"), 0), "d"), is_near((("d", "c", "b"), 0), "c")]
[True, False]

>>> from relinktree.relinks import are_independent
>>> are_independent((("a", "b", "c"), 0), (("d", "e", "a"), 1))
False
'''


def outcome(lines):
    """What the last line returns, as its repr, or the error that it raises with its fields."""
    names = {}
    for line in lines[:-1]:
        exec(line, names)
    try:
        return repr(eval(lines[-1], names))
    except (errors.RelinkTreeError, LookupError, RuntimeError, ArithmeticError) as error:
        fields = ", ".join([f"{name}={value!r}" for name, value in vars(error).items()])
        return f"raises {type(error).__name__}({fields})"


class Examples(unittest.TestCase):
    def test_every_example(self):
        examples = EXAMPLES.strip().split("\n\n")
        self.assertEqual(len(examples), 15)
        for example in examples:
            *lines, expected = example.split("\n")
            with self.subTest(example=example):
                self.assertEqual(outcome([line.removeprefix(">>> ") for line in lines]), expected)
