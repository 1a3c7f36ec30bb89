"""Pasts: which of the messages, equal ones told apart, were logged before a message was written, and where they are."""

from relinktree.errors import Busy, EmptyChannel, InvalidEvent, InvalidWord, NotLinked, UnknownHost
from relinktree.networks import Network
from relinktree.pasts import log_indexes, message_pasts
from tests.network_support import NO_LISTS, NetworkCase, any_run, line, tree_of
from tests.support import NO_NAMES

AB = line("ab")
ABC = ("a", "b", "c")


class Pasts(NetworkCase):
    def test_no_events(self):
        self.assertEqual(message_pasts(AB, []), [])
        self.assertEqual(message_pasts(AB, ()), [])
        self.assertEqual(message_pasts(AB, [("ask", ABC, 0), ("deliver", "a", "b")]), [])

    def test_the_own_messages_and_those_received(self):
        events = [("write", "a", "x"), ("write", "b", "y"), ("write", "a", "z"), ("deliver", "a", "b"), ("write", "b", "u")]
        expected = [("a", "x", ()), ("b", "y", ()), ("a", "z", (0,)), ("b", "u", (0, 1))]
        self.assertEqual(message_pasts(AB, events), expected)
        self.assertEqual(message_pasts(events=tuple(events), tree=AB), expected)

    def test_the_past_is_sorted_although_the_log_is_not(self):
        events = [("write", "a", "x"), ("write", "b", "y"), ("deliver", "a", "b"), ("deliver", "b", "a")]
        events += [("write", "b", "p"), ("write", "a", "q")]
        self.assertEqual(message_pasts(AB, events)[2:], [("b", "p", (0, 1)), ("a", "q", (0, 1))])
        self.assertEqual(log_indexes(AB, events, "b"), [1, 0, 2])

    def test_equal_messages_of_one_writer(self):
        events = [("write", "a", "x")] * 3 + [("deliver", "a", "b"), ("deliver", "a", "b"), ("write", "b", "x")]
        expected = [("a", "x", ()), ("a", "x", (0,)), ("a", "x", (0, 1)), ("b", "x", (0, 1))]
        self.assertEqual(message_pasts(AB, events), expected)
        self.assertEqual([log_indexes(AB, events, name) for name in "ab"], [[0, 1, 2], [0, 1, 3]])

    def test_equal_words_of_several_writers(self):
        tree = tree_of("ab bc")
        events = [("write", "c", "x"), ("write", "a", "x"), ("deliver", "a", "b"), ("write", "b", "x"), ("deliver", "c", "b")]
        events += [("write", "b", "x")]
        expected = [("c", "x", ()), ("a", "x", ()), ("b", "x", (1,)), ("b", "x", (0, 1, 2))]
        self.assertEqual(message_pasts(tree, events), expected)
        self.assertEqual(log_indexes(tree, events, "b"), [1, 2, 0, 3])

    def test_words_that_are_numbers(self):
        events = [("write", "a", "7"), ("write", "a", "1"), ("deliver", "a", "b"), ("write", "b", "0")]
        self.assertEqual(message_pasts(AB, events), [("a", "7", ()), ("a", "1", (0,)), ("b", "0", (0,))])

    def test_more_than_ten_messages(self):
        events = [("write", "a", "x")] * 12
        self.assertEqual(message_pasts(AB, events)[11], ("a", "x", tuple(range(11))))
        self.assertEqual(log_indexes(AB, events, "a"), list(range(12)))

    def test_a_new_leaf_has_logged_what_its_host_had(self):
        events = [("write", "a", "x"), ("write", "b", "x"), ("add", "c", "b"), ("write", "c", "x")]
        self.assertEqual(message_pasts(AB, events), [("a", "x", ()), ("b", "x", ()), ("c", "x", (1,))])
        self.assertEqual(log_indexes(AB, events, "c"), [1, 2])

    def test_messages_of_a_host_that_has_left(self):
        events = [("write", "b", "x"), ("write", "a", "y"), ("remove", "b"), ("deliver", "b", "a"), ("write", "a", "z")]
        self.assertEqual(message_pasts(AB, events), [("b", "x", ()), ("a", "y", ()), ("a", "z", (0, 1))])
        self.assertEqual(log_indexes(AB, events, "a"), [1, 0, 2])

    def test_equal_messages_in_a_relink_that_are_queued(self):
        tree = tree_of("ab bc")
        events = [("ask", ABC, 0), ("deliver", "a", "b"), ("deliver", "b", "c"), ("write", "c", "x"), ("write", "c", "x")]
        events += [("deliver", "c", "a"), ("write", "a", "x"), ("deliver", "c", "b"), ("deliver", "b", "a"), ("write", "a", "x")]
        expected = [("c", "x", ()), ("c", "x", (0,)), ("a", "x", ()), ("a", "x", (0, 2))]
        self.assertEqual(message_pasts(tree, events), expected)
        self.assertEqual(log_indexes(tree, events, "a"), [2, 0, 3])

    def test_equal_messages_take_the_ways_of_different_ones(self):
        for seed in range(80):
            pasts = []

            def note(network, event):
                if event[0] == "write":
                    pasts.append((event[1], event[2], network.member(event[1]).log()[:-1]))

            network = any_run(seed, ["write", "write", "ask", "deliver", "deliver", "deliver", "add", "remove"], note)
            indexes = {(writer, word): index for index, (writer, word, past) in enumerate(pasts)}
            expected = [(writer, "same", tuple(sorted([indexes[entry] for entry in past]))) for writer, word, past in pasts]
            events = [(*event[:2], "same") if event[0] == "write" else event for event in network.events()]
            self.assertEqual(message_pasts(network.first_tree(), events), expected)
            for name in network.hosts():
                log = [indexes[entry] for entry in network.member(name).log()]
                self.assertEqual(log_indexes(network.first_tree(), events, name), log)


class Errors(NetworkCase):
    def test_events_that_are_no_list_or_tuple(self):
        for value in NO_LISTS:
            self.assert_error(InvalidEvent, {"value": value}, message_pasts, AB, value)
            self.assert_error(InvalidEvent, {"value": value}, log_indexes, AB, value, "z")

    def test_the_first_event_that_raises_an_error(self):
        write = ("write", "a", "x")
        for event, error, fields in [
            (("write", "a"), InvalidEvent, {"value": ("write", "a")}),
            (("write", "c", "x"), UnknownHost, {"host": "c"}),
            (("write", "c", "X"), UnknownHost, {"host": "c"}),
            (("write", "a", "X"), InvalidWord, {"value": "X"}),
            (("deliver", "b", "a"), EmptyChannel, {"source": "b", "goal": "a"}),
            (("ask", ("a", "c", "b"), 0), NotLinked, {"host": "a", "other": "c"}),
        ]:
            for events in ([write, event, ("write",)], (event,), [event, event]):
                self.assert_error(error, fields, message_pasts, AB, events)
                self.assert_error(error, fields, log_indexes, AB, events, "z")
        self.assert_error(Busy, {"host": "a"}, message_pasts, AB, [("ask", ABC, 0), ("ask", ABC, 0)])

    def test_events_of_any_kind(self):
        for value in NO_NAMES:
            self.assert_error(InvalidEvent, {"value": value}, message_pasts, AB, [value])
            self.assert_error(UnknownHost, {"host": value}, message_pasts, AB, [("write", value, "x")])
            self.assert_error(UnknownHost, {"host": value}, log_indexes, AB, [("write", value, value)], "a")

    def test_words_of_any_kind(self):
        for value in [None, True, 0, "", "X", "x ", b"x", ["x"], ("x",), "abcdefghijklm"]:
            self.assert_error(InvalidWord, {"value": value}, message_pasts, AB, [("write", "a", "x"), ("write", "a", value)])

    def test_hosts_that_are_not_present_at_the_end(self):
        for value in NO_NAMES + ["c", "z"]:
            self.assert_error(UnknownHost, {"host": value}, log_indexes, AB, [("write", "a", "x")], value)
        self.assert_error(UnknownHost, {"host": "b"}, log_indexes, AB, [("write", "b", "x"), ("remove", "b")], host="b")
        self.assertEqual(log_indexes(tree=AB, events=[("add", "c", "a")], host="c"), [])

    def test_the_arguments_stay_as_they_are(self):
        events = [("write", "a", "x"), ("deliver", "a", "b")]
        rows = message_pasts(AB, events)
        rows.clear()
        log_indexes(AB, events, "b").clear()
        self.assertEqual(events, [("write", "a", "x"), ("deliver", "a", "b")])
        self.assertEqual(message_pasts(AB, events), [("a", "x", ())])
        self.assertTrue(Network(AB) == Network(line("ab")))
