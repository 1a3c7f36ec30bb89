"""The written forms of trees and events."""

import random

from relinktree.errors import InvalidEvent, InvalidLine, InvalidText
from relinktree.texts import event_text, parse_event, parse_tree, tree_text
from relinktree.trees import Tree
from tests.network_support import any_tree, line, tree_of
from tests.support import NO_ITEMS, NO_NAMES, Case, Impostor, all_link_lists
from tests.test_network_events import WRONG_EVENTS

NO_STRINGS = [value for value in NO_NAMES if not isinstance(value, str)]

EVENT_TEXTS = {
    ("write", "a", "hi"): "write a hi",
    ("write", "zzzzzzzz", "0123456789az"): "write zzzzzzzz 0123456789az",
    ("write", "write", "write"): "write write write",
    ("ask", ("a", "b", "c"), 0): "ask a,b,c 0",
    ("ask", ("c", "ask", "zzzzzzzz"), 1): "ask c,ask,zzzzzzzz 1",
    ("ask", tuple("lkjihgfedcba"), 10): "ask l,k,j,i,h,g,f,e,d,c,b,a 10",
    ("ask", tuple("abcdefghijklm"), 11): "ask a,b,c,d,e,f,g,h,i,j,k,l,m 11",
    ("deliver", "a", "b"): "deliver a b",
    ("deliver", "a", "a"): "deliver a a",
    ("add", "c", "a"): "add c a",
    ("add", "a", "a"): "add a a",
    ("remove", "a"): "remove a",
    ("remove", "remove"): "remove remove",
}


class Trees(Case):
    def test_the_written_form(self):
        self.assertEqual(tree_text(Tree(["a"])), "host a\n")
        self.assertEqual(tree_text(tree_of("ba cb bd")), "host a\nhost b\nhost c\nhost d\nlink a b\nlink b c\nlink b d\n")
        tree = Tree(["b", "ab", "a", "abc"], [("b", "a"), ("abc", "a"), ("ab", "a")])
        self.assertEqual(tree_text(tree=tree), "host a\nhost ab\nhost abc\nhost b\nlink a ab\nlink a abc\nlink a b\n")

    def test_both_ways(self):
        for names in ["a", "ab", "abc", "abcd"]:
            for links in all_link_lists(names):
                tree = Tree(list(names), links)
                self.assertEqual(parse_tree(tree_text(tree)), tree)
        for seed in range(50):
            rng = random.Random(seed)
            tree = any_tree(rng, rng.randint(1, 12))
            self.assertEqual(parse_tree(text=tree_text(tree)), tree)
            self.assertIs(type(parse_tree(tree_text(tree))), Tree)

    def test_values_that_are_no_strings(self):
        for value in NO_STRINGS + [b"host a\n", ["host a\n"], ("host a\n",)]:
            self.assert_error(InvalidLine, {"line": 0}, parse_tree, value)


# Texts of trees with the number of the first wrong line.
WRONG_TREES = {
    # No host.
    "": 1,
    # Lines that are not of the form.
    "\n": 1, "a\n": 1, "host\n": 1, "host \n": 1, "host A\n": 1, "host a1\n": 1, "host abcdefghi\n": 1, "Host a\n": 1,
    "HOST a\n": 1, "hosts a\n": 1, "host a b\n": 1, "host  a\n": 1, " host a\n": 1, "host a \n": 1, "host\ta\n": 1, "host a,b\n": 1,
    "host a\n\n": 2, "\nhost a\n": 1, "host a\n\nhost b\nlink a b\n": 2, "host a\nhost b\n\nlink a b\n": 3,
    "host a\nevents\n": 2, "host a\nwrite a x\n": 2, "host a\r\n": 1, "host a\nhost b\nlink a b\n#\n": 4,
    "host a\nhost b\nlink a\n": 3, "host a\nhost b\nlink\n": 3, "host a\nhost b\nlink a b a\n": 3,
    "host a\nhost b\nlink a  b\n": 3, "host a\nhost b\nlink  a b\n": 3, "host a\nhost b\nlink a b \n": 3,
    "host a\nhost b\n link a b\n": 3, "host a\nhost b\nLink a b\n": 3, "host a\nhost b\nlink A b\n": 3,
    "host a\nhost b\nlinks a b\n": 3, "host a\nhost b\nlink a,b\n": 3, "host a\nhost b\nlink a-b\n": 3,
    "host a\nhost b\nhost a b\n": 3, "host a\nhost b\nlink a 1\n": 3, "host a\nhost b\nlink a \n": 3, "host a\nhost b\nlink  b\n": 3,
    # The names of a link in descending order, or equal.
    "host a\nhost b\nlink b a\n": 3, "host a\nhost b\nlink a a\n": 3, "host a\nlink a a\n": 2,
    # Out of order, or twice.
    "host b\nhost a\n": 2, "host b\nhost a\nlink a b\n": 2, "host a\nhost a\n": 2, "host a\nhost c\nhost b\nlink a b\nlink b c\n": 3,
    "host a\nhost b\nhost b\nlink a b\n": 3, "host b\nhost ab\n": 2, "host ab\nhost a\n": 2,
    "host a\nhost b\nlink a b\nlink a b\n": 4, "host a\nhost b\nhost c\nlink b c\nlink a b\n": 5,
    "host a\nhost b\nhost c\nlink a c\nlink a b\n": 5, "host a\nhost b\nhost c\nlink a b\nlink b c\nlink a b\n": 6,
    "host a\nhost b\nlink a b\nhost c\nlink b c\n": 4, "host a\nhost b\nlink a b\nhost c\n": 4, "link a b\nhost a\nhost b\n": 1,
    "host a\nhost b\nlink a b\nhost b\n": 4, "host b\nhost c\nlink b c\nhost a\n": 4,
    # Without its newline.
    "host a": 1, "host a\nhost b": 2, "host a\nhost b\nlink a b": 3, "host a\n ": 2, "a": 1, "host a\nx": 2, " ": 1, "host b\nhost a": 2,
    "host a\nhost b\nhost c\nlink a b": 4, "host a\nhost b\nhost c\nlink a z\nlink b c": 4,
    # A host that has no line.
    "link a b\n": 1, "host a\nlink a b\n": 2, "host a\nhost b\nlink a c\n": 3, "host b\nhost c\nlink a b\n": 3,
    "host a\nhost b\nlink a b\nlink b c\n": 4, "host a\nhost b\nlink y z\n": 3,
    # A link that is ahead of the line of its host.
    "host a\nlink a b\nhost b\n": 2,
    # A ring.
    "host a\nhost b\nhost c\nlink a b\nlink a c\nlink b c\n": 6,
    "host a\nhost b\nhost c\nhost d\nlink a b\nlink a d\nlink b c\nlink c d\n": 8,
    "host a\nhost b\nhost c\nhost d\nlink a b\nlink a c\nlink b c\n": 7,
    # Not connected.
    "host a\nhost b\n": 3, "host a\nhost b\nhost c\nlink a b\n": 5, "host a\nhost b\nhost c\nhost d\nlink a b\nlink c d\n": 7,
}


class WrongTrees(Case):
    def test_the_first_wrong_line(self):
        for text, number in WRONG_TREES.items():
            with self.subTest(text=text):
                self.assert_error(InvalidLine, {"line": number}, parse_tree, text)

    def test_the_first_of_several_wrong_lines(self):
        text = "host a\nhost c\nhost b\nlink a a\nlink c a"
        self.assert_error(InvalidLine, {"line": 3}, parse_tree, text)
        self.assert_error(InvalidLine, {"line": 4}, parse_tree, text.replace("host c", "host ab"))
        self.assert_error(InvalidLine, {"line": 1}, parse_tree, " " + text)

    def test_every_part_of_a_text(self):
        text = tree_text(line("abcde"))
        for size in range(len(text)):
            part = text[:size]
            if part == "host a\n":
                self.assertEqual(parse_tree(part), Tree(["a"]))
            else:
                self.assert_error(InvalidLine, {"line": part.count("\n") + 1}, parse_tree, part)

    def test_lines_left_out_and_repeated(self):
        lines = tree_text(tree_of("ab bc bd de")).split("\n")[:-1]
        for at, removed in enumerate(lines):
            rest = lines[:at] + lines[at + 1:]
            if removed.startswith("host"):
                name = removed[-1]
                expected = next(number for number, other in enumerate(rest, 1) if other.startswith("link") and name in other[5:])
            else:
                expected = len(rest) + 1
            self.assert_error(InvalidLine, {"line": expected}, parse_tree, "".join([other + "\n" for other in rest]))
            doubled = lines[:at] + [removed] + lines[at:]
            self.assert_error(InvalidLine, {"line": at + 2}, parse_tree, "".join([other + "\n" for other in doubled]))

    def test_lines_exchanged(self):
        lines = tree_text(tree_of("ab bc bd de")).split("\n")[:-1]
        for at in range(len(lines) - 1):
            changed = lines[:at] + [lines[at + 1], lines[at]] + lines[at + 2:]
            text = "".join([other + "\n" for other in changed])
            # The fifth host line is exchanged with the first link, whose hosts have lines ahead of it.
            self.assert_error(InvalidLine, {"line": at + 2}, parse_tree, text)


class Events(Case):
    def test_both_ways(self):
        for event, text in EVENT_TEXTS.items():
            self.assertEqual(event_text(event), text)
            self.assertEqual(parse_event(text), event)
            self.assertEqual(event_text(event=event), text)
            self.assertEqual(parse_event(text=text), event)
            self.assertIs(type(parse_event(text)), tuple)

    def test_values_that_are_no_events(self):
        for value in WRONG_EVENTS + NO_ITEMS:
            self.assert_error(InvalidEvent, {"value": value}, event_text, value)

    def test_parts_that_are_no_names_words_or_relinks(self):
        for value in NO_NAMES:
            for event in [
                ("write", value, "x"), ("deliver", value, "a"), ("deliver", "a", value), ("add", value, "a"),
                ("add", "a", value), ("remove", value), ("ask", value, 2), ("ask", (value, "a", "b"), 0),
                ("ask", ("a", "b", value), 1), ("write", "a", Impostor()),
            ]:
                self.assert_error(InvalidEvent, {"value": event}, event_text, event)
        for word in ["", "X", "x ", "x\n", "abcdefghijklm", None, 5, b"x", ["x"], ("x",), True]:
            self.assert_error(InvalidEvent, {"value": ("write", "a", word)}, event_text, ("write", "a", word))
        for path, cut in [("abc", 0), (("a", "b"), 0), (("a", "b", "a"), 0), (("a", "b", "c"), 2), (("a", "b", "c"), -1)]:
            self.assert_error(InvalidEvent, {"value": ("ask", path, cut)}, event_text, ("ask", path, cut))
        for cut in [True, False, None, "0", (0,), Impostor()]:
            event = ("ask", ("a", "b", "c"), cut)
            self.assert_error(InvalidEvent, {"value": event}, event_text, event)

    def test_texts_that_are_no_events(self):
        for text in [
            "", " ", "write", "write a", "write a hi x", "write a hi ", " write a hi", "write  a hi", "write a  hi", "write a ",
            "Write a hi", "WRITE a hi", "write A hi", "write a Hi", "write a hi\n", "write a hi\n\n", "\nwrite a hi", "write\ta\thi",
            "write a1 hi", "write abcdefghi x", "write a abcdefghijklm", "write a h-i", "write ,a hi", "write a,b hi", "writes a hi",
            "ask", "ask a,b,c", "ask a,b,c 2", "ask a,b,c -1", "ask a,b,c +1", "ask a,b,c 01", "ask a,b,c 00", "ask a,b,c 1 ",
            "ask a,b,c  1", "ask a, b,c 1", "ask a b c 1", "ask a,b 0", "ask a 0", "ask a,b,a 0", "ask a,b,c, 1", "ask ,a,b,c 1",
            "ask a,,c 1", "ask A,b,c 1", "ask a,b,c x", "ask a,b,c 1.0", "ask a,b,c 1 1", "ask a,b,c ", "ask 1 a,b,c", "ask a-b-c 1",
            "ask a;b;c 1", "Ask a,b,c 1", "ask a,b,c 10", "ask a,b,c 1\n", "ask (a,b,c) 1", "ask a,b,c 0x1", "ask a,b,c 1_0",
            "deliver", "deliver a", "deliver a b c", "deliver a,b", "deliver a-b", "deliver a b ", "Deliver a b", "deliver a 1",
            "add", "add a", "add a b c", "add 1 a", "add a b\n", "Add a b", "remove", "remove a b", "remove ", "remove 1", "remove a ",
            "Remove a", "removes a", "message a hi 0", "bye", "settle", "undo", "host a", "link a b", "events", "rest",
        ]:
            self.assert_error(InvalidText, {"value": text}, parse_event, text)

    def test_values_that_are_no_strings(self):
        for value in NO_STRINGS + [("write", "a", "hi"), b"write a hi", ["write a hi"]]:
            self.assert_error(InvalidText, {"value": value}, parse_event, value)

    def test_every_part_of_a_text_is_no_event_or_another_one(self):
        for text in EVENT_TEXTS.values():
            for size in range(len(text)):
                try:
                    self.assertEqual(event_text(parse_event(text[:size])), text[:size])
                except InvalidText as error:
                    self.assertEqual(error.value, text[:size])
