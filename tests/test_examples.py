"""The examples of the document for the files that are there, as they stand."""

import unittest

from relinktree import errors

# Each example ends with what its last line returns, or with the error that it raises.
EXAMPLES = r'''
>>> from relinktree.errors import Busy
>>> Busy("a").host
'a'

>>> from relinktree.names import is_host_name
>>> [is_host_name("abc"), is_host_name("a1"), is_host_name("")]
[True, False, False]

>>> from relinktree.names import is_word
>>> [is_word("v2"), is_word("V2"), is_word(None)]
[True, False, False]

>>> from relinktree.trees import Tree
>>> tree = Tree(["b", "a"], [("b", "a")])
>>> [repr(tree), len(tree), tree == Tree(["a", "b"], [("a", "b")])]
["Tree(['a', 'b'], [('a', 'b')])", 2, True]

>>> from relinktree.trees import Tree
>>> Tree(["a", "b"])
raises InvalidTree(reason='connected', value='b')

>>> from relinktree.trees import Tree
>>> tree = Tree(["a", "b", "c"], [("c", "b"), ("b", "a")])
>>> [tree.hosts(), tree.links(), tree.leaves()]
[['a', 'b', 'c'], [('a', 'b'), ('b', 'c')], ['a', 'c']]

>>> from relinktree.trees import Tree
>>> Tree(["a", "b", "c"], [("a", "b"), ("b", "c")]).neighbors("b")
['a', 'c']

>>> from relinktree.trees import Tree
>>> tree = Tree(["a", "b", "c"], [("a", "b"), ("b", "c")])
>>> [tree.has_link("b", "a"), tree.has_link("a", "c"), tree.has_link("a", None)]
[True, False, False]

>>> from relinktree.trees import Tree
>>> Tree(["a", "b", "c"], [("a", "b"), ("b", "c")]).path("c", "a")
('c', 'b', 'a')

>>> from relinktree.trees import Tree
>>> Tree(["a", "b", "c"], [("a", "b"), ("b", "c")]).relinked(("a", "b", "c"), 1).links()
[('a', 'b'), ('a', 'c')]

>>> from relinktree.relinks import is_relink
>>> [is_relink((("a", "b", "c"), 1)), is_relink((("a", "b", "c"), 2)), is_relink((("a", "b"), 0))]
[True, False, False]

>>> from relinktree.relinks import added_link, removed_link
>>> relink = (("d", "c", "b", "a"), 0)
>>> [added_link(relink), removed_link(relink)]
[('a', 'd'), ('c', 'd')]

>>> from relinktree.relinks import position
>>> position((("d", "c", "b"), 0), "b")
2

>>> from relinktree.relinks import is_near
>>> [is_near((("d", "c", "b"), 0), "d"), is_near((("d", "c", "b"), 0), "c")]
[True, False]

>>> from relinktree.relinks import are_independent
>>> are_independent((("a", "b", "c"), 0), (("d", "e", "a"), 1))
False

>>> from relinktree.items import is_item
>>> [is_item(("message", "a", "hi", 0)), is_item(("yes", ("a", "b", "c"), 1)), is_item(("bye", "a"))]
[True, True, False]

>>> from relinktree.items import item_text
>>> [item_text(("message", "a", "hi", 1)), item_text(("go", ("a", "b", "c"), 1)), item_text(("bye",))]
['message a hi 1', 'go a,b,c 1', 'bye']

>>> from relinktree.items import parse_item
>>> parse_item("ask c,b,a 0")
('ask', ('c', 'b', 'a'), 0)

>>> from relinktree.items import parse_item
>>> parse_item("message a hi 2")
raises InvalidText(value='message a hi 2')

>>> from relinktree.channels import Channels
>>> channels = Channels()
>>> channels.put("a", "b", ("bye",))
>>> [len(channels), channels == Channels()]
[1, False]

>>> from relinktree.channels import Channels
>>> Channels().put("a", "a", ("bye",))
raises InvalidName(value='a')

>>> from relinktree.channels import Channels
>>> channels = Channels()
>>> channels.put("a", "b", ("message", "a", "one", 0))
>>> channels.put("a", "b", ("bye",))
>>> [channels.take("a", "b"), channels.in_flight("a", "b")]
[('message', 'a', 'one', 0), [('bye',)]]

>>> from relinktree.channels import Channels
>>> channels = Channels()
>>> channels.put("b", "a", ("bye",))
>>> [channels.busy(), channels.in_flight("a", "b")]
[[('b', 'a')], []]

>>> from relinktree.channels import Channels
>>> channels = Channels()
>>> channels.put("b", "a", ("bye",))
>>> [channels.discard_to("b"), channels.discard_to("a"), len(channels)]
[0, 1, 0]

>>> from relinktree.channels import Channels
>>> channels = Channels()
>>> twin = channels.copied()
>>> twin.put("a", "b", ("bye",))
>>> [len(channels), len(twin)]
[0, 1]

>>> from relinktree.roles import forward_bit
>>> relink = (("a", "b", "c", "d"), 1)
>>> [forward_bit(relink, "c", "turned", None, "d", 0), forward_bit(relink, "c", "turned", "b", "d", 0)]
[1, 0]

>>> from relinktree.roles import forward_bit
>>> relink = (("a", "b", "c", "d"), 1)
>>> [forward_bit(relink, "d", "turned", "c", "a", 0), forward_bit(relink, "d", "turned", "c", "a", 1)]
[None, 0]

>>> from relinktree.roles import forwards
>>> forwards(["c", "a", "x"], source="c")
[('a', 0), ('x', 0)]

>>> from relinktree.roles import forwards
>>> relink = (("a", "b", "c", "d"), 1)
>>> forwards(["a", "c", "x"], source="x", relink=relink, host="d", phase="turned")
[('a', 0), ('c', 0)]

>>> from relinktree.roles import control_step
>>> relink = (("a", "b", "c"), 1)
>>> control_step(relink, "c", "ask")
([('b', 'yes')], 'turned', 'a', 'b', None)

>>> from relinktree.roles import control_step
>>> relink = (("a", "b", "c"), 1)
>>> control_step(relink, "b", "go")
([('c', 'go'), ('a', 'back')], 'free', None, 'c', None)

>>> from relinktree.roles import control_step
>>> control_step((("a", "b", "c"), 0), "a", "yes")
([('b', 'go')], 'free', 'c', 'b', 'done')

>>> from relinktree.hosts import Host
>>> host = Host("b", links=["c", "a"])
>>> [repr(host), host == Host("b", links=["a", "c"])]
["Host('b', links=['a', 'c'])", True]

>>> from relinktree.hosts import Host
>>> host = Host("b", links=["c", "a"], log=[("a", "hi")])
>>> [host.name(), host.log(), host.links(), host.answers()]
['b', [('a', 'hi')], ['a', 'c'], []]

>>> from relinktree.hosts import Host
>>> host = Host("a", links=["b"])
>>> sends = host.ask(("a", "b", "c"), 1)
>>> [host.relink(), host.phase(), host.waits_for(), host.queue()]
[(('a', 'b', 'c'), 1), 'reserved', 'c', []]

>>> from relinktree.hosts import Host
>>> host = Host("b", links=["c", "a"])
>>> [host.write("hi"), host.log()]
[[('a', ('message', 'b', 'hi', 0)), ('c', ('message', 'b', 'hi', 0))], [('b', 'hi')]]

>>> from relinktree.hosts import Host
>>> Host("a", links=["b"]).ask(("a", "b", "c"), 1)
[('b', ('ask', ('a', 'b', 'c'), 1))]

>>> from relinktree.hosts import Host
>>> Host("a", links=["b"]).ask(("a", "c", "b"), 1)
raises NotLinked(host='a', other='c')

>>> from relinktree.hosts import Host
>>> host = Host("b", links=["a", "c"])
>>> [host.receive("a", ("message", "a", "hi", 0)), host.log()]
[[('c', ('message', 'a', 'hi', 0))], [('a', 'hi')]]

>>> from relinktree.hosts import Host
>>> host = Host("c", links=["b"])
>>> [host.receive("b", ("ask", ("a", "b", "c"), 1)), host.links(), host.phase(), host.waits_for()]
[[('b', ('yes', ('a', 'b', 'c'), 1))], ['a'], 'turned', 'a']

>>> from relinktree.hosts import Host
>>> host = Host("b", links=["c"])
>>> host.add_link("a")
>>> host.links()
['a', 'c']

>>> from relinktree.hosts import Host
>>> Host("b", links=["c"]).leave()
[('c', ('bye',))]

>>> from relinktree.hosts import Host
>>> host = Host("b", links=["c"])
>>> twin = host.copied()
>>> sends = twin.write("hi")
>>> [host.log(), twin.log()]
[[], [('b', 'hi')]]

>>> from relinktree.trees import Tree
>>> from relinktree.networks import Network
>>> tree = Tree(["a", "b"], [("a", "b")])
>>> [len(Network(tree)), Network(tree) == Network(tree), Network(tree) == tree]
[2, True, False]

>>> from relinktree.trees import Tree
>>> from relinktree.networks import Network
>>> network = Network(Tree(["b", "a"], [("a", "b")]))
>>> [network.hosts(), network.member("b").links(), network.first_tree().links()]
[['a', 'b'], ['a'], [('a', 'b')]]

>>> from relinktree.trees import Tree
>>> from relinktree.networks import Network
>>> network = Network(Tree(["a", "b"], [("a", "b")]))
>>> network.write("a", "hi")
>>> [network.busy(), network.in_flight("a", "b"), network.is_at_rest()]
[[('a', 'b')], [('message', 'a', 'hi', 0)], False]

>>> from relinktree.trees import Tree
>>> from relinktree.networks import Network
>>> network = Network(Tree(["a", "b"], [("a", "b")]))
>>> network.write("c", "hi")
raises UnknownHost(host='c')

>>> from relinktree.trees import Tree
>>> from relinktree.networks import Network
>>> network = Network(Tree(["a", "b", "c"], [("a", "b"), ("b", "c")]))
>>> network.ask(("a", "b", "c"), 1)
>>> [network.in_flight("a", "b"), network.member("a").phase()]
[[('ask', ('a', 'b', 'c'), 1)], 'reserved']

>>> from relinktree.trees import Tree
>>> from relinktree.networks import Network
>>> network = Network(Tree(["a", "b", "c"], [("a", "b"), ("b", "c")]))
>>> network.write("a", "hi")
>>> [network.deliver("a", "b"), network.busy(), network.member("b").log()]
[('message', 'a', 'hi', 0), [('b', 'c')], [('a', 'hi')]]

>>> from relinktree.trees import Tree
>>> from relinktree.networks import Network
>>> Network(Tree(["a", "b"], [("a", "b")])).deliver("b", "a")
raises EmptyChannel(source='b', goal='a')

>>> from relinktree.trees import Tree
>>> from relinktree.networks import Network
>>> network = Network(Tree(["a"]))
>>> network.write("a", "hi")
>>> network.add_leaf("b", at="a")
>>> [network.member("b").log(), network.member("b").links(), network.member("a").links()]
[[('a', 'hi')], ['a'], ['b']]

>>> from relinktree.trees import Tree
>>> from relinktree.networks import Network
>>> network = Network(Tree(["a", "b"], [("a", "b")]))
>>> network.write("a", "hi")
>>> network.remove_leaf("b")
>>> [network.hosts(), network.busy(), network.in_flight("b", "a")]
[['a'], [('b', 'a')], [('bye',)]]

>>> from relinktree.trees import Tree
>>> from relinktree.networks import Network
>>> network = Network(Tree(["a", "b"], [("a", "b")]))
>>> network.do(("write", "a", "hi"))
>>> [network.do(("deliver", "a", "b")), network.events()]
[('message', 'a', 'hi', 0), [('write', 'a', 'hi'), ('deliver', 'a', 'b')]]

>>> from relinktree.trees import Tree
>>> from relinktree.networks import Network
>>> Network(Tree(["a"])).do(("write", "a"))
raises InvalidEvent(value=('write', 'a'))

>>> from relinktree.trees import Tree
>>> from relinktree.networks import Network
>>> network = Network(Tree(["a"]))
>>> twin = network.copied()
>>> twin.write("a", "hi")
>>> [network.events(), twin.events()]
[[], [('write', 'a', 'hi')]]

>>> from relinktree.trees import Tree
>>> from relinktree.networks import Network
>>> from relinktree.runs import settle
>>> network = Network(Tree(["a", "b", "c"], [("a", "b"), ("b", "c")]))
>>> network.ask(("a", "b", "c"), 1)
>>> [settle(network), network.member("a").answers(), network.member("a").links()]
[7, [(('a', 'b', 'c'), 1, 'done')], ['b', 'c']]

>>> from relinktree.trees import Tree
>>> from relinktree.networks import Network
>>> from relinktree.runs import settle
>>> network = Network(Tree(["a", "b", "c"], [("a", "b"), ("b", "c")]))
>>> network.write("b", "hi")
>>> settle(network, choices=[1], most=1)
raises TooMany(limit=1)

>>> from relinktree.trees import Tree
>>> from relinktree.networks import Network
>>> from relinktree.runs import settle, tree_at_rest
>>> network = Network(Tree(["a", "b", "c"], [("a", "b"), ("b", "c")]))
>>> network.ask(("a", "b", "c"), 0)
>>> count = settle(network)
>>> tree_at_rest(network).links()
[('a', 'c'), ('b', 'c')]

>>> from relinktree.trees import Tree
>>> from relinktree.pasts import message_pasts
>>> tree = Tree(["a", "b"], [("a", "b")])
>>> message_pasts(tree, [("write", "a", "x"), ("deliver", "a", "b"), ("write", "b", "x")])
[('a', 'x', ()), ('b', 'x', (0,))]

>>> from relinktree.trees import Tree
>>> from relinktree.pasts import log_indexes
>>> tree = Tree(["a", "b"], [("a", "b")])
>>> events = [("write", "a", "x"), ("write", "b", "x"), ("deliver", "a", "b")]
>>> log_indexes(tree, events, "b")
[1, 0]

>>> from relinktree.trees import Tree
>>> from relinktree.networks import Network
>>> from relinktree.reports import reason
>>> network = Network(Tree(["a", "b", "c"], [("a", "b"), ("b", "c")]))
>>> network.ask(("a", "b", "c"), 1)
>>> [reason(network, "a"), reason(network, "b")]
[[('a', 'ask', 'a', 'b', 0)], []]

>>> from relinktree.trees import Tree
>>> from relinktree.networks import Network
>>> from relinktree.reports import is_reason
>>> network = Network(Tree(["a", "b"], [("a", "b")]))
>>> [is_reason(network, "a", []), is_reason(network, "a", None)]
[True, False]

>>> from relinktree.trees import Tree
>>> from relinktree.networks import Network
>>> from relinktree.reports import whereabouts
>>> network = Network(Tree(["a", "b"], [("a", "b")]))
>>> network.write("a", "x")
>>> whereabouts(network, "a", "x")
([('a', 1)], [('a', 'b', 0)])

>>> from relinktree.trees import Tree
>>> from relinktree.plans import plan
>>> tree = Tree(["a", "b", "c"], [("a", "b"), ("b", "c")])
>>> [len(plan(tree, Tree(["a", "b", "c"], [("a", "b"), ("a", "c")]))), plan(tree, tree)]
[1, []]

>>> from relinktree.trees import Tree
>>> from relinktree.plans import apply_plan
>>> tree = Tree(["a", "b", "c"], [("a", "b"), ("b", "c")])
>>> apply_plan(tree, [(("a", "b", "c"), 1), (("b", "a", "c"), 0)]).links()
[('a', 'c'), ('b', 'c')]

>>> from relinktree.trees import Tree
>>> from relinktree.plans import is_plan
>>> tree = Tree(["a", "b", "c"], [("a", "b"), ("b", "c")])
>>> [is_plan(tree, tree, []), is_plan(tree, tree, [(("a", "b", "c"), 1)])]
[True, False]

>>> from relinktree.trees import Tree
>>> from relinktree.explore import explore
>>> explore(Tree(["a", "b"], [("a", "b")]), {"a": [("write", "x")]})
(3, [(('a', (('a', 'x'),)), ('b', (('a', 'x'),)))])

>>> from relinktree.trees import Tree
>>> from relinktree.texts import tree_text, parse_tree
>>> text = tree_text(Tree(["b", "a"], [("a", "b")]))
>>> [text, parse_tree(text).links()]
['host a\nhost b\nlink a b\n', [('a', 'b')]]

>>> from relinktree.texts import parse_tree
>>> parse_tree("host b\nhost a\n")
raises InvalidLine(line=2)

>>> from relinktree.texts import event_text, parse_event
>>> [event_text(("ask", ("a", "b", "c"), 1)), parse_event("add c a")]
['ask a,b,c 1', ('add', 'c', 'a')]

>>> from relinktree.trees import Tree
>>> from relinktree.networks import Network
>>> from relinktree.texts import history_text, parse_history
>>> network = Network(Tree(["a", "b"], [("a", "b")]))
>>> network.write("b", "x")
>>> text = history_text(network)
>>> [text, parse_history(text) == network]
['host a\nhost b\nlink a b\nevents\nwrite b x\n', True]

>>> from relinktree.desk import Desk
>>> desk = Desk()
>>> answers = [desk.execute("tree a,b,c a-b,b-c"), desk.execute("write a hi"), desk.execute("settle")]
>>> [answers, desk.execute("log c"), desk.execute("links b")]
[['ok', 'ok', '2'], 'a:hi', 'a c']

>>> from relinktree.desk import Desk
>>> Desk().execute("rest")
raises NoNetwork

>>> from relinktree.desk import Desk
>>> desk = Desk()
>>> answer = desk.execute("tree a -")
>>> desk.network().hosts()
['a']
'''


def outcome(lines):
    """What the last line returns, as its repr, or the error that it raises with its fields."""
    names = {}
    for line in lines[:-1]:
        exec(line, names)
    try:
        return repr(eval(lines[-1], names))
    except (errors.RelinkTreeError, LookupError, RuntimeError, ArithmeticError) as error:
        fields = ", ".join([f"{name}={value!r}" for name, value in vars(error).items()])
        return f"raises {type(error).__name__}({fields})" if fields else f"raises {type(error).__name__}"


class Examples(unittest.TestCase):
    def test_every_example(self):
        examples = EXAMPLES.strip().split("\n\n")
        self.assertEqual(len(examples), 74)
        for example in examples:
            *lines, expected = example.split("\n")
            with self.subTest(example=example):
                self.assertEqual(outcome([line.removeprefix(">>> ") for line in lines]), expected)
