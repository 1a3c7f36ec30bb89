import itertools
import re

from relinktree.errors import InvalidItem, InvalidText
from relinktree.items import is_item, item_text, parse_item
from tests.support import ITEM_TEXTS, ITEMS, KINDS, LISTS, NO_ITEMS, NO_NAMES, NO_RELINKS, OTHER_KINDS, TUPLES, Case

PATHS = [("a", "b", "c"), ("c", "a", "b"), ("d", "c", "b", "a"), ("zzzzzzzz", "y", "x"), tuple("abcdefghijklmn")]


class IsItem(Case):
    def test_every_kind_at_its_edges(self):
        for item in ITEMS:
            self.assertIs(is_item(item), True, item)
            self.assertIs(is_item(value=item), True, item)

    def test_every_bit(self):
        for bit in range(-3, 5):
            self.assertIs(is_item(("message", "a", "hi", bit)), bit in (0, 1))

    def test_every_kind_with_every_cut(self):
        for kind in KINDS:
            for path in PATHS:
                for cut in range(-2, len(path) + 2):
                    self.assertIs(is_item((kind, path, cut)), 0 <= cut <= len(path) - 2, (kind, path, cut))

    def test_a_flag_is_no_bit_and_no_cut(self):
        for flag in [True, False]:
            self.assertIs(is_item(("message", "a", "hi", flag)), False)
            for kind in KINDS:
                self.assertIs(is_item((kind, ("a", "b", "c"), flag)), False)

    def test_paths_that_are_none(self):
        for kind in KINDS:
            for path in [["a", "b", "c"], ("a", "b"), ("a",), (), ("a", "b", "a"), ("a", "a", "b"), "abc", None]:
                self.assertIs(is_item((kind, path, 0)), False, (kind, path))

    def test_one_part_more_or_less(self):
        for item in ITEMS:
            self.assertIs(is_item(item[:-1]), False, item)
            self.assertIs(is_item(item[1:]), False, item)
            for part in [None, 0, "a", (), item[-1]]:
                self.assertIs(is_item(item + (part,)), False, (item, part))
                self.assertIs(is_item((part,) + item), False, (item, part))

    def test_a_list_in_place_of_the_tuple(self):
        for item in ITEMS:
            self.assertIs(is_item(list(item)), False, item)

    def test_other_kinds(self):
        for kind in ["", "a", "Message", "BYE", "asks", "as", "ask ", "yes\n", "done", "refused", "write", "deliver"]:
            for item in ITEMS:
                self.assertIs(is_item((kind,) + item[1:]), False, (kind, item))

    def test_the_parts_of_another_kind(self):
        for first, second in itertools.product(ITEMS, ITEMS):
            expected = len(first) == len(second)
            self.assertIs(is_item(first[:1] + second[1:]), expected, (first, second))

    def test_values_of_any_kind(self):
        for value in NO_ITEMS:
            self.assertIs(is_item(value), False)

    def test_values_of_any_kind_as_parts(self):
        for value in NO_NAMES:
            self.assertIs(is_item((value, "a", "hi", 0)), False)
            self.assertIs(is_item(("message", value, "hi", 0)), False)
            self.assertIs(is_item((value, ("a", "b", "c"), 0)), False)
            self.assertIs(is_item((value,)), False)
            self.assertIs(is_item(("bye", value)), False)
            self.assertIs(is_item(("go", ("a", value, "c"), 0)), False)
        for value in NO_RELINKS:
            if isinstance(value, tuple):
                self.assertIs(is_item(("yes",) + value), False)
            self.assertIs(is_item(("yes", value)), False)
        for value in LISTS + TUPLES + [None, "-", "0 ", b"0", Ellipsis]:
            self.assertIs(is_item(("message", "a", value, 0)), False)
            self.assertIs(is_item(("message", "a", "hi", value)), False)
            self.assertIs(is_item(("back", ("a", "b", "c"), value)), False)


class ItemText(Case):
    def test_every_kind(self):
        for item, text in ITEM_TEXTS.items():
            self.assertEqual(item_text(item), text)
            self.assertEqual(item_text(item=item), text)
            self.assertIs(type(item_text(item)), str)

    def test_every_control_kind(self):
        for kind in KINDS:
            self.assertEqual(item_text((kind, ("c", "b", "a", "d"), 2)), kind + " c,b,a,d 2")

    def test_no_item(self):
        for value in NO_ITEMS:
            self.assert_error(InvalidItem, {"value": value}, item_text, value)


def is_written_form(text):
    """Whether the document's words about written forms hold for the text."""
    if text == "bye" or re.fullmatch(r"message [a-z]{1,8} [a-z0-9]{1,12} [01]", text):
        return True
    found = re.fullmatch(r"(?:ask|no|yes|go|back) ([a-z]{1,8}(?:,[a-z]{1,8})*) (0|[1-9][0-9]{0,4})", text)
    if not found:
        return False
    hosts = found.group(1).split(",")
    return len(hosts) >= 3 and len(set(hosts)) == len(hosts) and int(found.group(2)) <= len(hosts) - 2


def with_insertions(text, inserted):
    """The texts with one more piece at any place."""
    return [text[:at] + inserted + text[at:] for at in range(len(text) + 1)]


class ParseItem(Case):
    def assert_no_item(self, text):
        self.assertFalse(is_written_form(text), text)
        self.assert_error(InvalidText, {"value": text}, parse_item, text)

    def test_there_and_back(self):
        for item, text in ITEM_TEXTS.items():
            self.assertEqual(parse_item(text), item)
            self.assertEqual(parse_item(text=text), item)
            self.assertEqual(item_text(parse_item(text)), text)

    def test_the_kinds_of_the_parts(self):
        for text in ITEM_TEXTS.values():
            item = parse_item(text)
            self.assertIs(type(item), tuple)
            self.assertIs(is_item(item), True)
        self.assertIs(type(parse_item("ask a,b,c 1")[1]), tuple)
        self.assertIs(type(parse_item("ask a,b,c 1")[2]), int)
        self.assertIs(type(parse_item("message a hi 1")[3]), int)
        self.assertIs(type(parse_item("message a 1 1")[2]), str)

    def assert_item_only_if_written_so(self, text):
        """The text gives the item with this written form, or the error if there is none."""
        if is_written_form(text):
            self.assertEqual(item_text(parse_item(text)), text)
        else:
            self.assert_error(InvalidText, {"value": text}, parse_item, text)
        return is_written_form(text)

    def test_spaces_signs_and_newlines_at_any_place(self):
        for text in ITEM_TEXTS.values():
            for inserted in [" ", "  ", ",,", "+", "-", "\n", "\t", ";", ".", "_", " , "]:
                for wrong in with_insertions(text, inserted):
                    self.assert_no_item(wrong)

    def test_commas_digits_and_letters_at_any_place(self):
        for text in ITEM_TEXTS.values():
            for inserted in [",", "0", "1", "a", "q", "qqq"]:
                for other in with_insertions(text, inserted):
                    self.assert_item_only_if_written_so(other)

    def test_characters_left_out(self):
        for text in ITEM_TEXTS.values():
            for at in range(len(text)):
                self.assert_item_only_if_written_so(text[:at] + text[at + 1:])

    def test_capital_letters_at_any_place(self):
        for text in ITEM_TEXTS.values():
            for at, character in enumerate(text):
                if character.isalpha():
                    self.assert_no_item(text[:at] + character.upper() + text[at + 1:])

    def test_numbers_that_are_not_written_so(self):
        numbers = ["00", "01", "001", "+0", "+1", "-0", "-1", "1.0", "0x1", "0b1", "1e0", "1_0", "", "one", "True", "None"]
        for number in numbers + ["2", "9", "10", "0" * 5000, "1" * 5000, "9" * 19000]:
            self.assert_no_item("message a hi " + number)
            for kind in KINDS:
                self.assert_no_item(kind + " a,b,c " + number)

    def test_cuts_at_the_edges(self):
        hosts = "abcdefghijkl"
        for length in range(3, 13):
            path = ",".join(hosts[:length])
            for cut in range(length - 1):
                self.assertEqual(parse_item(f"ask {path} {cut}"), ("ask", tuple(hosts[:length]), cut))
            self.assert_no_item(f"ask {path} {length - 1}")
            self.assert_no_item(f"ask {path} 0{length - 2}")

    def test_words_left_out_repeated_or_exchanged(self):
        for text in [
            "", " ", "message", "message a", "message a hi", "a hi 0", "message hi 0", "message a 0", "hi 0",
            "message message a hi 0", "message a a hi 0", "message a hi hi 0", "message a hi 0 0", "message a hi 0 1",
            "a message hi 0", "message a 0 hi", "message 0 a hi", "0 a hi message", "hi a message 0",
            "ask", "ask 0", "a,b,c 0", "ask a,b,c", "ask ask a,b,c 0", "ask a,b,c a,b,c 0", "ask a,b,c 0 0",
            "a,b,c ask 0", "ask 0 a,b,c", "0 a,b,c ask", "ask yes", "ask no a,b,c 0", "ask a b c 0", "ask a,b 0",
            "ask a 0", "ask a,b,a 0", "ask a,b,b 0", "ask a,,b 0", "ask ,a,b,c 0", "ask a,b,c, 0", "ask a-b-c 0",
            "ask a,b,c1 0", "ask a,b,abcdefghi 0", "ask , 0", "ask ,, 0", "ask (a,b,c) 0", "maybe a,b,c 0",
            "bye bye", "bye a", "bye 0", "good bye", "goodbye", "bye\n", "bye;", "byebye",
            "message a hi", "message a1 hi 0", "message a h-i 0", "message abcdefghi hi 0", "message a abcdefghijklm 0",
            "bye a,b,c 0", "message a,b,c 0", "message a,b,c hi 0", "write a hi", "deliver a b", "('bye',)",
        ]:
            self.assert_no_item(text)

    def test_all_sequences_of_some_parts(self):
        parts = ["message", "ask", "back", "bye", "a", "hi2", "a,b", "a,b,c", "d,c,b,a", "0", "1", "2", "3", "01", ""]
        right = 0
        for size in range(5):
            for chosen in itertools.product(parts, repeat=size):
                right += self.assert_item_only_if_written_so(" ".join(chosen))
        self.assertEqual(right, 1 + 2 * (2 + 3) + 5 * 11 * 2)

    def test_values_that_are_no_strings(self):
        for value in OTHER_KINDS + LISTS + TUPLES + ITEMS + [b"bye", ["bye"]]:
            self.assert_error(InvalidText, {"value": value}, parse_item, value)
