import itertools

from relinktree.channels import Channels
from relinktree.errors import EmptyChannel, InvalidItem, InvalidName
from tests.support import ITEMS, LISTS, NO_ITEMS, NO_NAMES, OTHER_KINDS, TUPLES, Case

BYE = ("bye",)
ONE = ("message", "a", "one", 0)
TWO = ("message", "a", "two", 1)
ASK = ("ask", ("a", "b", "c"), 0)


def filled(rows):
    """Channels into which the items were put in this order."""
    channels = Channels()
    for source, goal, item in rows:
        channels.put(source, goal, item)
    return channels


ROWS = [("b", "a", ONE), ("a", "b", TWO), ("a", "b", BYE), ("c", "b", ASK), ("a", "c", ONE), ("a", "b", TWO)]


class Putting(Case):
    def test_all_empty_at_first(self):
        channels = Channels()
        self.assertEqual(channels.busy(), [])
        self.assertEqual(channels.in_flight("a", "b"), [])
        self.assertEqual(len(channels), 0)

    def test_it_returns_none(self):
        self.assertIsNone(Channels().put("a", "b", BYE))

    def test_every_kind_of_item(self):
        channels = Channels()
        for item in ITEMS:
            channels.put("a", "b", item)
        self.assertEqual(channels.in_flight("a", "b"), ITEMS)

    def test_in_the_order_in_which_they_were_sent(self):
        channels = filled(ROWS)
        self.assertEqual(channels.in_flight("a", "b"), [TWO, BYE, TWO])
        self.assertEqual(channels.in_flight("b", "a"), [ONE])
        self.assertEqual(channels.in_flight("c", "b"), [ASK])
        self.assertEqual(channels.in_flight("a", "c"), [ONE])

    def test_by_name(self):
        channels = Channels()
        channels.put(item=BYE, goal="b", source="a")
        self.assertEqual(channels.in_flight(goal="b", source="a"), [BYE])
        self.assertEqual(channels.take(goal="b", source="a"), BYE)
        channels.put("a", "b", BYE)
        self.assertEqual(channels.discard_to(goal="b"), 1)

    def test_both_directions_of_a_pair(self):
        channels = filled([("a", "b", ONE), ("b", "a", TWO)])
        self.assertEqual(channels.in_flight("a", "b"), [ONE])
        self.assertEqual(channels.in_flight("b", "a"), [TWO])
        self.assertEqual(channels.take("b", "a"), TWO)
        self.assertEqual(channels.busy(), [("a", "b")])

    def test_names_that_look_alike_together(self):
        channels = filled([("a", "bc", ONE), ("ab", "c", TWO)])
        self.assertEqual(channels.in_flight("a", "bc"), [ONE])
        self.assertEqual(channels.in_flight("ab", "c"), [TWO])


class WrongPuts(Case):
    def check_nothing_changed(self, error, fields, *args):
        channels = filled(ROWS)
        self.assert_error(error, fields, channels.put, *args)
        self.assertEqual(channels, filled(ROWS))
        self.assertEqual(len(channels), len(ROWS))

    def test_no_source(self):
        for value in NO_NAMES:
            self.check_nothing_changed(InvalidName, {"value": value}, value, "b", BYE)

    def test_no_goal(self):
        for value in NO_NAMES:
            self.check_nothing_changed(InvalidName, {"value": value}, "a", value, BYE)

    def test_the_source_itself(self):
        for name in ["a", "b", "zzzzzzzz"]:
            self.check_nothing_changed(InvalidName, {"value": name}, name, name, BYE)

    def test_no_item(self):
        for value in NO_ITEMS:
            self.check_nothing_changed(InvalidItem, {"value": value}, "a", "b", value)

    def test_the_first_of_several_wrong_ones_is_reported(self):
        self.check_nothing_changed(InvalidName, {"value": "A"}, "A", "B", None)
        self.check_nothing_changed(InvalidName, {"value": None}, None, [], ["bye"])
        self.check_nothing_changed(InvalidName, {"value": ""}, "", "b", ("bye", "a"))
        self.check_nothing_changed(InvalidName, {"value": "A"}, "A", "A", BYE)
        self.check_nothing_changed(InvalidName, {"value": "B"}, "a", "B", None)
        self.check_nothing_changed(InvalidName, {"value": "a"}, "a", "a", None)


class Taking(Case):
    def test_in_order(self):
        channels = filled([("a", "b", item) for item in ITEMS])
        self.assertEqual([channels.take("a", "b") for _ in ITEMS], ITEMS)
        self.assertEqual(channels, Channels())

    def test_equal_items_behind_one_another(self):
        channels = filled([("a", "b", ONE), ("a", "b", ONE), ("a", "b", ONE)])
        for left in [2, 1, 0]:
            self.assertEqual(channels.take("a", "b"), ONE)
            self.assertEqual(channels.in_flight("a", "b"), [ONE] * left)
            self.assertEqual(len(channels), left)

    def test_a_hundred_items(self):
        items = [("message", "a", f"w{number}", number % 2) for number in range(100)]
        channels = filled([("a", "b", item) for item in items])
        self.assertEqual(len(channels), 100)
        self.assertEqual(channels.in_flight("a", "b"), items)
        self.assertEqual(channels.busy(), [("a", "b")])
        for left in range(100, 0, -1):
            self.assertEqual(len(channels), left)
            self.assertEqual(channels.take("a", "b"), items[100 - left])
        self.assert_error(EmptyChannel, {"source": "a", "goal": "b"}, channels.take, "a", "b")

    def test_puts_between_takes(self):
        channels = filled([("a", "b", ONE), ("a", "b", TWO)])
        self.assertEqual(channels.take("a", "b"), ONE)
        channels.put("a", "b", BYE)
        self.assertEqual([channels.take("a", "b"), channels.take("a", "b")], [TWO, BYE])

    def test_other_channels_stay(self):
        channels = filled(ROWS)
        channels.take("a", "b")
        self.assertEqual(channels, filled(ROWS[:1] + ROWS[2:]))

    def test_an_empty_channel(self):
        channels = filled([("a", "b", BYE)])
        for source, goal in [("b", "a"), ("a", "c"), ("c", "b"), ("a", "a"), ("x", "y")]:
            self.assert_error(EmptyChannel, {"source": source, "goal": goal}, channels.take, source, goal)
        channels.take("a", "b")
        self.assert_error(EmptyChannel, {"source": "a", "goal": "b"}, channels.take, "a", "b")
        self.assert_error(EmptyChannel, {"source": "a", "goal": "b"}, Channels().take, "a", "b")

    def test_any_values(self):
        channels = filled(ROWS)
        for value in NO_NAMES:
            self.assert_error(EmptyChannel, {"source": value, "goal": "b"}, channels.take, value, "b")
            self.assert_error(EmptyChannel, {"source": "a", "goal": value}, channels.take, "a", value)
            self.assert_error(EmptyChannel, {"source": value, "goal": value}, channels.take, value, value)
        self.assertEqual(channels, filled(ROWS))


class Queries(Case):
    def test_busy_is_sorted_by_source_then_by_goal(self):
        expected = [("a", "b"), ("a", "c"), ("aa", "b"), ("b", "a"), ("b", "aa"), ("c", "a"), ("c", "b")]
        for rows in itertools.islice(itertools.permutations(expected), 0, 5040, 7):
            self.assertEqual(filled([(*pair, BYE) for pair in rows]).busy(), expected)

    def test_busy_holds_pairs_of_busy_channels_only(self):
        channels = filled(ROWS)
        self.assertEqual(channels.busy(), [("a", "b"), ("a", "c"), ("b", "a"), ("c", "b")])
        self.assertTrue(all(type(pair) is tuple for pair in channels.busy()))
        channels.take("b", "a")
        channels.take("a", "b")
        self.assertEqual(channels.busy(), [("a", "b"), ("a", "c"), ("c", "b")])

    def test_in_flight_for_any_values(self):
        channels = filled(ROWS)
        for value in NO_NAMES + ["x"]:
            self.assertEqual(channels.in_flight(value, "b"), [])
            self.assertEqual(channels.in_flight("a", value), [])
            self.assertEqual(channels.in_flight(value, value), [])
        self.assertEqual(channels.in_flight("a", "a"), [])
        self.assertEqual(channels, filled(ROWS))

    def test_changes_of_returned_lists_have_no_effect(self):
        channels = filled(ROWS)
        channels.in_flight("a", "b").append(BYE)
        channels.in_flight("b", "a").clear()
        channels.in_flight("b", "c").append(BYE)
        channels.busy().clear()
        channels.busy().append(("x", "y"))
        self.assertEqual(channels, filled(ROWS))
        self.assertEqual(channels.in_flight("b", "c"), [])
        self.assertIsNot(channels.in_flight("a", "b"), channels.in_flight("a", "b"))
        self.assertIsNot(channels.busy(), channels.busy())

    def test_returned_lists_do_not_change_later(self):
        channels = filled(ROWS)
        held = channels.in_flight("a", "b")
        busy = channels.busy()
        channels.take("a", "b")
        channels.put("a", "b", ONE)
        channels.put("x", "y", ONE)
        self.assertEqual(held, [TWO, BYE, TWO])
        self.assertEqual(busy, [("a", "b"), ("a", "c"), ("b", "a"), ("c", "b")])

    def test_repeated_queries(self):
        channels = filled(ROWS)
        for _ in range(3):
            self.assertEqual(channels.in_flight("a", "b"), [TWO, BYE, TWO])
            self.assertEqual(channels.busy(), [("a", "b"), ("a", "c"), ("b", "a"), ("c", "b")])
            self.assertEqual(len(channels), 6)

    def test_len_counts_the_items_of_all_channels(self):
        channels = Channels()
        for count, row in enumerate(ROWS):
            self.assertEqual(len(channels), count)
            channels.put(*row)
        self.assertEqual(len(channels), 6)


class Discarding(Case):
    def test_all_items_to_the_goal(self):
        channels = filled(ROWS)
        self.assertEqual(channels.discard_to("b"), 4)
        self.assertEqual(channels, filled([("b", "a", ONE), ("a", "c", ONE)]))
        self.assertEqual(len(channels), 2)
        self.assertEqual(channels.busy(), [("a", "c"), ("b", "a")])
        self.assertEqual(channels.in_flight("a", "b"), [])

    def test_what_the_host_sent_stays(self):
        channels = filled([("a", "b", ONE), ("a", "b", BYE), ("c", "a", TWO)])
        self.assertEqual(channels.discard_to("a"), 1)
        self.assertEqual(channels.in_flight("a", "b"), [ONE, BYE])

    def test_a_host_that_only_sends(self):
        channels = filled([("a", "b", ONE), ("a", "c", ONE)])
        self.assertEqual(channels.discard_to("a"), 0)
        self.assertEqual(channels, filled([("a", "b", ONE), ("a", "c", ONE)]))

    def test_again_and_anew(self):
        channels = filled(ROWS)
        self.assertEqual([channels.discard_to("b"), channels.discard_to("b")], [4, 0])
        channels.put("a", "b", BYE)
        self.assertEqual(channels.in_flight("a", "b"), [BYE])
        self.assertEqual(channels.discard_to("b"), 1)

    def test_nothing_in_flight(self):
        self.assertEqual(Channels().discard_to("a"), 0)

    def test_any_other_value(self):
        channels = filled(ROWS)
        for value in NO_NAMES + ["x", "bb", "ab", ("a", "b")]:
            count = channels.discard_to(value)
            self.assertEqual(count, 0)
            self.assertIs(type(count), int)
        self.assertEqual(channels, filled(ROWS))


class CopiesAndEquality(Case):
    def test_a_copy_is_equal(self):
        channels = filled(ROWS)
        twin = channels.copied()
        self.assertIs(type(twin), Channels)
        self.assertIsNot(twin, channels)
        self.assertEqual(twin, channels)
        self.assertEqual(len(twin), 6)
        self.assertEqual(Channels().copied(), Channels())

    def test_changes_of_a_copy_have_no_effect_on_the_first(self):
        for change in [
            lambda twin: twin.put("a", "b", ONE), lambda twin: twin.put("x", "y", ONE), lambda twin: twin.take("a", "b"),
            lambda twin: twin.take("c", "b"), lambda twin: twin.discard_to("b"),
        ]:
            channels = filled(ROWS)
            twin = channels.copied()
            change(twin)
            self.assertEqual(channels, filled(ROWS))
            self.assertNotEqual(twin, channels)
            twin = channels.copied()
            change(channels)
            self.assertEqual(twin, filled(ROWS))

    def test_two_objects_share_nothing(self):
        one, other = Channels(), Channels()
        one.put("a", "b", BYE)
        self.assertEqual(len(other), 0)

    def test_another_order_of_the_channels(self):
        rows = [("a", "b", ONE), ("c", "a", TWO), ("b", "a", BYE)]
        for other in itertools.permutations(rows):
            self.assertTrue(filled(other) == filled(rows))
            self.assertFalse(filled(other) != filled(rows))

    def test_another_order_in_one_channel(self):
        self.assertFalse(filled([("a", "b", ONE), ("a", "b", TWO)]) == filled([("a", "b", TWO), ("a", "b", ONE)]))
        self.assertTrue(filled([("a", "b", ONE), ("a", "b", TWO)]) != filled([("a", "b", TWO), ("a", "b", ONE)]))

    def test_other_items_or_channels(self):
        first = filled([("a", "b", ONE)])
        for rows in [
            [], [("a", "b", TWO)], [("b", "a", ONE)], [("a", "c", ONE)], [("a", "b", ONE), ("a", "b", ONE)],
            [("a", "b", ONE), ("b", "a", ONE)], [("a", "b", ("message", "a", "one", 1))],
        ]:
            self.assertNotEqual(first, filled(rows))
            self.assertNotEqual(filled(rows), first)

    def test_after_channels_became_empty(self):
        channels = filled(ROWS)
        for source, goal, _ in ROWS:
            channels.take(source, goal)
        self.assertEqual(channels, Channels())
        self.assertEqual(Channels(), channels)
        channels = filled(ROWS)
        channels.discard_to("b")
        channels.discard_to("a")
        channels.discard_to("c")
        self.assertEqual(channels, Channels())
        self.assertEqual(channels.busy(), [])

    def test_after_a_channel_became_empty_and_busy_again(self):
        channels = filled([("a", "b", ONE), ("b", "a", ONE)])
        channels.take("a", "b")
        channels.put("a", "b", TWO)
        self.assertEqual(channels, filled([("a", "b", TWO), ("b", "a", ONE)]))

    def test_other_values(self):
        for channels in [Channels(), filled(ROWS)]:
            for value in LISTS + TUPLES + OTHER_KINDS + ["", "a"]:
                if type(value) is not Channels:
                    self.assertIs(channels == value, False)
                    self.assertIs(channels != value, True)
