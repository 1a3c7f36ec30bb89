"""The whereabouts of a message: the logs that have it, and its copies in flight and in queues."""

from relinktree.networks import Network
from relinktree.reports import whereabouts
from relinktree.runs import settle
from tests.network_support import NetworkCase, any_run, deliver_all, network_on, tree_of, whole
from tests.support import Impostor, NO_NAMES, OTHER_KINDS

ABC = ("a", "b", "c")


class Whereabouts(NetworkCase):
    def test_logs_and_copies(self):
        network = Network(tree_of("ab bc bd"))
        network.write("b", "x")
        self.assertEqual(whereabouts(network, "b", "x"), ([("b", 1)], [("b", "a", 0), ("b", "c", 0), ("b", "d", 0)]))
        network.deliver("b", "c")
        self.assertEqual(whereabouts(network, "b", "x"), ([("b", 1), ("c", 1)], [("b", "a", 0), ("b", "d", 0)]))
        settle(network)
        self.assertEqual(whereabouts(network, "b", "x"), ([(name, 1) for name in "abcd"], []))

    def test_indexes_and_several_copies_in_one_channel(self):
        network = network_on("ab")
        for word in ["x", "y", "x", "z", "x"]:
            network.write("a", word)
        self.assertEqual(whereabouts(network, "a", "x"), ([("a", 3)], [("a", "b", 0), ("a", "b", 2), ("a", "b", 4)]))
        self.assertEqual(whereabouts(network, "a", "z"), ([("a", 1)], [("a", "b", 3)]))
        deliver_all(network, "ab", "ab", "ab")
        self.assertEqual(whereabouts(network, "a", "x"), ([("a", 3), ("b", 2)], [("a", "b", 1)]))

    def test_the_writer_and_the_word_count(self):
        network = network_on("ab")
        network.write("a", "x")
        network.write("b", "x")
        network.write("b", "a")
        self.assertEqual(whereabouts(network, "a", "x"), ([("a", 1)], [("a", "b", 0)]))
        self.assertEqual(whereabouts(network, "b", "x"), ([("b", 1)], [("b", "a", 0)]))
        self.assertEqual(whereabouts(network, "x", "b"), ([], []))
        self.assertEqual(whereabouts(network, "a", "a"), ([], []))

    def test_control_items_count_for_the_index(self):
        network = network_on("abc")
        network.ask(ABC, 1)
        network.write("a", "x")
        self.assertEqual(whereabouts(network, "a", "x"), ([("a", 1)], [("a", "b", 1)]))

    def test_copies_in_queues(self):
        network = Network(tree_of("ab ac"))
        network.ask(ABC, 0)
        for word in ["x", "y", "x"]:
            network.write("c", word)
        deliver_all(network, "ca", "ca")
        self.assertEqual(whereabouts(network, "c", "x"), ([("c", 2)], [("c", "a", -1), ("c", "a", 0)]))
        network.deliver("c", "a")
        self.assertEqual(whereabouts(network, "c", "x"), ([("c", 2)], [("c", "a", -1), ("c", "a", -1)]))
        self.assertEqual(whereabouts(network, "c", "y"), ([("c", 1)], [("c", "a", -1)]))
        deliver_all(network, "ab", "ba")
        self.assertEqual(whereabouts(network, "c", "x"), ([("a", 2), ("c", 2)], [("a", "b", 0), ("a", "b", 2)]))

    def test_copies_of_both_bits_and_a_queue_of_the_last_host(self):
        path = ("a", "b", "c", "d")
        network = network_on("abcd")
        network.ask(path, 0)
        deliver_all(network, "ab", "bc", "cd", "dc", "cb")
        network.write("b", "x")
        network.deliver("b", "c")
        self.assertEqual(network.in_flight("c", "d"), [("message", "b", "x", 1)])
        self.assertEqual(whereabouts(network, "b", "x"), ([("b", 1), ("c", 1)], [("c", "d", 0)]))
        deliver_all(network, "cd", "da")
        self.assertEqual(whereabouts(network, "b", "x"), ([("b", 1), ("c", 1), ("d", 1)], [("d", "a", -1)]))

    def test_sorted_with_queues(self):
        network = Network(tree_of("bc bd ba"))
        network.ask(("b", "c", "d"), 0)
        network.write("d", "x")
        network.write("d", "x")
        network.deliver("d", "b")
        network.write("b", "u")
        self.assertEqual(whereabouts(network, "d", "x"), ([("d", 2)], [("d", "b", -1), ("d", "b", 0)]))

    def test_hosts_that_have_left(self):
        network = network_on("abc")
        network.write("c", "x")
        network.write("b", "y")
        network.remove_leaf("c")
        self.assertEqual(whereabouts(network, "c", "x"), ([], [("c", "b", 0)]))
        self.assertEqual(whereabouts(network, "b", "y"), ([("b", 1)], [("b", "a", 0)]))
        settle(network)
        self.assertEqual(whereabouts(network, "c", "x"), ([("a", 1), ("b", 1)], []))

    def test_new_leaves_have_the_log(self):
        network = network_on("ab")
        network.write("a", "x")
        network.add_leaf("c", at="a")
        self.assertEqual(whereabouts(network, "a", "x"), ([("a", 1), ("c", 1)], [("a", "b", 0)]))

    def test_a_message_that_was_never_written(self):
        network = network_on("ab")
        network.write("a", "x")
        for writer, word in [("b", "x"), ("a", "y"), ("z", "x"), ("message", "x")]:
            self.assertEqual(whereabouts(network, writer, word), ([], []))

    def test_values_that_are_no_message(self):
        network = network_on("ab")
        network.write("a", "x")
        before = whole(network)
        for value in NO_NAMES:
            self.assertEqual(whereabouts(network, value, "x"), ([], []))
        for value in OTHER_KINDS + ["", "X", "x ", ["x"], ("x",), ("a", "x"), "abcdefghijklm", Impostor()]:
            self.assertEqual(whereabouts(network, "a", value), ([], []))
        self.assertEqual(whole(network), before)

    def test_by_name_and_the_lists_belong_to_the_caller(self):
        network = network_on("ab")
        network.write("a", "x")
        found = whereabouts(word="x", network=network, writer="a")
        self.assertIs(type(found), tuple)
        found[0].clear()
        found[1].append(None)
        self.assertEqual(whereabouts(network, "a", "x"), ([("a", 1)], [("a", "b", 0)]))
        empty = whereabouts(network, None, None)
        empty[0].append(1)
        empty[1].append(1)
        self.assertEqual(whereabouts(network, None, None), ([], []))

    def test_each_present_host_has_or_awaits_each_message_once(self):
        def check(network, event):
            if event[0] == "write":
                logs, copies = whereabouts(network, *event[1:])
                self.assertEqual(logs, [(event[1], 1)])
                links = [other for other in network.member(event[1]).links() if other in network.hosts()]
                self.assertEqual([copy[:2] for copy in copies], [(event[1], other) for other in links])
                for source, goal, index in copies:
                    self.assertEqual(network.in_flight(source, goal)[index][:3], ("message", *event[1:]))

        for seed in range(30):
            network = any_run(seed, ["write", "deliver", "deliver", "ask", "add"], check)
            for event in network.events():
                if event[0] == "write":
                    self.assertEqual(whereabouts(network, *event[1:]), ([(name, 1) for name in network.hosts()], []))
