"""The written forms of histories, and the networks that they lead to."""

from relinktree.errors import InvalidLine
from relinktree.networks import Network
from relinktree.runs import settle
from relinktree.texts import event_text, history_text, parse_history, tree_text
from relinktree.trees import Tree
from tests.network_support import any_run, network_on, state, tree_of, whole
from tests.support import Case
from tests.test_texts import NO_STRINGS, WRONG_TREES

HEAD = "host a\nhost b\nhost c\nlink a b\nlink b c\nevents\n"


class Histories(Case):
    def test_the_written_form(self):
        network = Network(tree_of("ab bc"))
        self.assertEqual(history_text(network), HEAD)
        network.write("a", "hi")
        network.ask(("a", "b", "c"), 1)
        network.deliver("a", "b")
        network.add_leaf("d", at="c")
        network.remove_leaf("d")
        lines = "write a hi\nask a,b,c 1\ndeliver a b\nadd d c\nremove d\n"
        self.assertEqual(history_text(network=network), HEAD + lines)
        self.assertEqual(history_text(Network(Tree(["a"]))), "host a\nevents\n")

    def test_it_begins_with_the_first_tree(self):
        network = network_on("abc")
        network.ask(("a", "b", "c"), 1)
        settle(network)
        self.assertTrue(history_text(network).startswith(HEAD))
        self.assertEqual(history_text(network).count("deliver"), 7)

    def test_both_ways(self):
        for seed in range(60):
            network = any_run(seed, ["write", "ask", "deliver", "deliver", "add", "remove"], lambda *_: None, to_rest=seed % 2)
            text = history_text(network)
            again = parse_history(text=text)
            self.assertIs(type(again), Network)
            self.assertTrue(again == network)
            self.assertEqual(whole(again), whole(network))
            self.assertEqual(history_text(again), text)

    def test_no_events(self):
        self.assertEqual(whole(parse_history("host a\nevents\n")), whole(Network(Tree(["a"]))))
        self.assertEqual(whole(parse_history(HEAD)), whole(network_on("abc")))

    def test_the_text_is_of_events_that_were_done(self):
        network = network_on("ab")
        for event in [("write", "z", "x"), ("deliver", "a", "b"), ("remove", "z")]:
            with self.assertRaises(LookupError):
                network.do(event)
        self.assertEqual(history_text(network), "host a\nhost b\nlink a b\nevents\n")

    def test_the_networks_are_independent(self):
        one, other = parse_history(HEAD), parse_history(HEAD)
        one.write("a", "x")
        self.assertEqual(state(other), state(network_on("abc")))


class WrongHistories(Case):
    def check(self, number, text):
        self.assert_error(InvalidLine, {"line": number}, parse_history, text)

    def test_values_that_are_no_strings(self):
        for value in NO_STRINGS + [HEAD.encode(), [HEAD], Network(Tree(["a"]))]:
            self.check(0, value)

    def test_wrong_lines_of_the_tree(self):
        for text, number in WRONG_TREES.items():
            with self.subTest(text=text):
                if text == "host a\nevents\n":
                    self.assertEqual(parse_history(text).hosts(), ["a"])
                    continue
                # Without a line "events" the number is the same: a wrong line, or the one behind the last.
                self.check(number, text)
                if text.endswith("\n") or text == "":
                    self.check(number, text + "events\n")
                    self.check(number, text + "events\nwrite a x\nnothing\n")
                else:
                    # The line has its newline now, but one part too many.
                    self.check(number, text + " events\n")

    def test_no_line_events(self):
        self.check(1, "")
        self.check(2, "host a\n")
        self.check(6, HEAD.replace("events\n", ""))
        self.check(6, HEAD.replace("events\n", "write a x\n"))
        self.check(6, HEAD.replace("events", "Events"))
        self.check(6, HEAD.replace("events", "events "))
        self.check(6, HEAD.replace("events", " events"))
        self.check(6, HEAD.replace("events", "event"))
        self.check(6, HEAD.replace("events", ""))

    def test_the_line_events_without_its_newline(self):
        self.check(6, HEAD[:-1])
        self.check(2, "host a\nevents")
        self.check(1, "events")

    def test_the_line_events_when_there_is_no_tree(self):
        self.check(1, "events\n")
        self.check(1, "events\nhost a\nevents\n")
        self.check(3, "host a\nhost b\nevents\nwrite a x\n")
        self.check(4, "host a\nhost b\nhost c\nevents\nlink a b\n")
        self.check(5, "host a\nhost b\nhost c\nlink a b\nevents\n")

    def test_lines_behind_that_are_no_events(self):
        for line in [
            "", " ", "events", "host d", "link a c", "nothing", "write a", "write a X", "write a x ", " write a x",
            "Write a x", "write  a x", "ask a,b,c 2", "ask a,b,c 01", "ask a,b 0", "ask a,b,c +1", "deliver a",
            "deliver a b c", "add d", "remove", "bye", "message a hi 0", "settle", "undo", "write a x\r",
        ]:
            self.check(7, HEAD + line + "\n")
            self.check(8, HEAD + "write a x\n" + line + "\n" + "deliver a b\n")

    def test_lines_behind_without_their_newline(self):
        self.check(7, HEAD + "write a x")
        self.check(8, HEAD + "write a x\nwrite a y")
        self.check(7, HEAD + " ")
        self.check(8, HEAD + "write a x\nx")

    def test_events_that_raise_an_error(self):
        for line in [
            "write d x", "ask d,a,b 0", "ask a,c,b 0", "deliver a b", "deliver a a", "deliver z a", "add a b", "add d z", "add d d",
            "remove b", "remove z",
        ]:
            self.check(7, HEAD + line + "\n")
            self.check(8, HEAD + "write c x\n" + line + "\n")
            self.check(7, HEAD + line + "\nnothing")
        self.check(8, HEAD + "ask a,b,c 0\nask a,b,c 0\n")
        self.check(8, HEAD + "ask a,b,c 0\nremove a\n")
        self.check(9, HEAD + "add d a\nremove d\nadd d a\n")
        self.check(2 + 1, "host a\nevents\nremove a\n")
        self.check(9, HEAD + "write a x\ndeliver a b\ndeliver a b\n")

    def test_the_first_wrong_line_counts(self):
        self.check(2, "host b\nhost a\nevents\nnothing\n")
        self.check(7, HEAD + "nothing\nwrite z x\nwrite a x")
        self.check(8, HEAD + "write a x\nwrite z x\nnothing\n")

    def test_every_part_of_a_text(self):
        network = any_run(5, ["write", "ask", "deliver", "add"], lambda *_: None, count=20)
        text = history_text(network)
        head = tree_text(network.first_tree()) + "events\n"
        for size in range(len(text)):
            part = text[:size]
            if part.endswith("\n") and len(part) >= len(head):
                again = parse_history(part)
                count = len(again.events())
                self.assertEqual(again.events(), network.events()[:count])
                self.assertEqual(part, head + "".join([event_text(event) + "\n" for event in network.events()[:count]]))
            else:
                self.check(part.count("\n") + 1, part)
