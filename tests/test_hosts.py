"""Hosts by themselves: how they begin, what they answer to queries, equality, copies, writing, new leaves, leaving."""

from relinktree.errors import (
    Busy, InvalidItem, InvalidName, InvalidRelink, InvalidWord, NameTaken, NotALeaf, NotLinked,
)
from relinktree.hosts import Host
from tests.support import (
    ITEMS, LISTS, NO_ITEMS, NO_NAMES, OTHER_KINDS, TUPLES, WRONG_PAIRS, Case, host_at, reserved_host, turned_host,
)

PATH = ("a", "b", "c", "d", "e")
WRONG_WORDS = ["", " ", "A", "hI", "a b", "a\n", "-1", "a_", "abcdefghijklm", "`", "{"]


def hosts_in_all_phases():
    """A host of each phase and place of a relink, with a side link."""
    places = [reserved_host(PATH, 2, at) for at in range(4)] + [turned_host(PATH, 2, at) for at in (0, 1, 3, 4)]
    return [Host("a"), host_at(PATH, 1), *places]


def queries(host):
    return [
        host.name(), host.log(), host.links(), host.answers(), host.relink(), host.phase(), host.waits_for(), host.queue(),
    ]


class Beginning(Case):
    def test_a_host_is_free(self):
        self.assertEqual(queries(Host("a")), ["a", [], [], [], None, "free", None, []])

    def test_links_and_log(self):
        host = Host("b", links=["d", "a", "c"], log=[("c", "z"), ("a", "y"), ("c", "z")])
        self.assertEqual(host.links(), ["a", "c", "d"])
        self.assertEqual(host.log(), [("c", "z"), ("a", "y"), ("c", "z")])
        self.assertEqual(queries(host)[3:], [[], None, "free", None, []])

    def test_by_name(self):
        host = Host(log=[("a", "x")], links=["a"], name="b")
        self.assertEqual([host.name(), host.links(), host.log()], ["b", ["a"], [("a", "x")]])

    def test_empty_tuples(self):
        self.assertEqual(Host("a", links=(), log=()), Host("a"))
        self.assertEqual(Host("a", links=[], log=[]), Host("a"))

    def test_links_and_log_are_passed_by_name_only(self):
        with self.assertRaises(TypeError):
            Host("a", ["b"])

    def test_later_changes_to_an_argument_have_no_effect(self):
        links, log = ["c", "a"], [("a", "x")]
        host = Host("b", links=links, log=log)
        links.append("d")
        log.append(("a", "y"))
        self.assertEqual([host.links(), host.log()], [["a", "c"], [("a", "x")]])

    def test_arguments_are_not_modified(self):
        links, log = ["c", "a"], [("a", "x")]
        host = Host("b", links=links, log=log)
        host.write("hi")
        host.add_link("d")
        host.receive("c", ("bye",))
        self.assertEqual([links, log], [["c", "a"], [("a", "x")]])

    def test_a_new_leaf_starts_with_a_copy_of_the_log_of_its_host(self):
        host = Host("a", links=["b"])
        host.write("one")
        leaf = Host("x", links=["a"], log=host.log())
        host.add_link("x")
        self.assertEqual(queries(leaf), ["x", [("a", "one")], ["a"], [], None, "free", None, []])
        self.assertEqual(host.write("two")[1], ("x", ("message", "a", "two", 0)))
        leaf.write("three")
        self.assertEqual([host.log(), leaf.log()], [[("a", "one"), ("a", "two")], [("a", "one"), ("x", "three")]])


class Queries(Case):
    def test_repeated_queries_return_the_same(self):
        for host in hosts_in_all_phases():
            self.assertEqual(queries(host), queries(host))

    def test_changes_of_returned_lists_have_no_effect(self):
        for host in hosts_in_all_phases():
            host.write("hi")
            # Kept as a text, so that a list that the host would share does not change here too.
            before = repr(queries(host))
            for change in [lambda values: values.append("more"), lambda values: values.clear()]:
                for values in [host.log(), host.links(), host.answers(), host.queue()]:
                    change(values)
                self.assertEqual(repr(queries(host)), before)

    def test_returned_lists_do_not_change_later(self):
        host = turned_host(PATH, 2, 4)
        host.receive("a", ("message", "a", "one", 0))
        lists = [host.log(), host.links(), host.queue()]
        host.write("two")
        host.add_link("y")
        host.receive("a", ("message", "a", "three", 0))
        self.assertEqual(lists, [[], ["a", "d", "x"], [("message", "a", "one", 0)]])

    def test_sends_belong_to_the_caller(self):
        host = Host("a", links=["b"])
        host.write("one").clear()
        self.assertEqual(host.write("two"), [("b", ("message", "a", "two", 0))])
        host = Host("b", links=["a"])
        host.leave().clear()
        self.assertEqual(host.leave(), [("a", ("bye",))])

    def test_kinds(self):
        host = reserved_host(PATH, 2, 0)
        host.write("hi")
        self.assertEqual([type(value) for value in queries(host)], [str, list, list, list, tuple, str, str, list])
        self.assertEqual([type(value) for value in host.log() + [host.relink()]], [tuple, tuple])

    def test_who_waits_for_whom(self):
        for cut in range(4):
            self.assertEqual(reserved_host(PATH, cut, 0).waits_for(), "e")
            self.assertEqual(turned_host(PATH, cut, 4).waits_for(), "a")
            self.assertEqual([reserved_host(PATH, cut, at).waits_for() for at in (1, 2, 3)], [None] * 3)
            if cut > 0:
                self.assertEqual(turned_host(PATH, cut, 0).waits_for(), "e")
            for at in (1, 2, 3):
                if at != cut:
                    self.assertIsNone(turned_host(PATH, cut, at).waits_for())


class Equality(Case):
    def assert_equal_hosts(self, one, other):
        self.assertIs(one == other, True)
        self.assertIs(one != other, False)

    def assert_different_hosts(self, one, other):
        for first, second in [(one, other), (other, one)]:
            self.assertIs(first == second, False)
            self.assertIs(first != second, True)

    def test_equal_hosts(self):
        self.assert_equal_hosts(Host("a"), Host("a"))
        self.assert_equal_hosts(Host("a", links=["c", "b"]), Host("a", links=["b", "c"]))
        for one, other in zip(hosts_in_all_phases(), hosts_in_all_phases()):
            self.assert_equal_hosts(one, other)

    def test_another_name_links_or_log(self):
        host = Host("b", links=["a", "c"], log=[("a", "x"), ("b", "y")])
        self.assert_different_hosts(host, Host("d", links=["a", "c"], log=[("a", "x"), ("b", "y")]))
        self.assert_different_hosts(host, Host("b", links=["a"], log=[("a", "x"), ("b", "y")]))
        self.assert_different_hosts(host, Host("b", links=["a", "d"], log=[("a", "x"), ("b", "y")]))
        self.assert_different_hosts(host, Host("b", links=["a", "c"], log=[("b", "y"), ("a", "x")]))
        self.assert_different_hosts(host, Host("b", links=["a", "c"], log=[("a", "x")]))

    def test_another_relink_or_phase(self):
        free = Host("b", links=["a", "c", "x"])
        reserved = reserved_host(PATH, 2, 1)
        turned = turned_host(PATH, 2, 1)
        self.assertEqual(reserved.links(), free.links())
        self.assertEqual(turned.links(), free.links())
        self.assert_different_hosts(free, reserved)
        self.assert_different_hosts(free, turned)
        self.assert_different_hosts(reserved, turned)
        self.assert_different_hosts(reserved, reserved_host(PATH, 1, 1))
        self.assert_different_hosts(reserved, reserved_host(PATH[:4], 2, 1))

    def test_another_queue(self):
        one, other = turned_host(PATH, 2, 4), turned_host(PATH, 2, 4)
        one.receive("a", ("message", "a", "x", 0))
        self.assertEqual(queries(one)[:7], queries(other)[:7])
        self.assert_different_hosts(one, other)
        other.receive("a", ("message", "a", "x", 0))
        self.assert_equal_hosts(one, other)
        other.receive("a", ("message", "a", "x", 0))
        self.assert_different_hosts(one, other)

    def test_other_answers(self):
        one, other = reserved_host(PATH, 2, 0), host_at(PATH, 0)
        one.receive("b", ("no", PATH, 2))
        self.assertEqual(queries(one)[:3] + queries(one)[4:], queries(other)[:3] + queries(other)[4:])
        self.assert_different_hosts(one, other)

    def test_the_way_there_has_no_effect(self):
        host = reserved_host(PATH, 2, 2)
        host.receive("d", ("no", PATH, 2))
        self.assert_equal_hosts(host, host_at(PATH, 2))
        host.add_link("y")
        host.receive("y", ("bye",))
        self.assert_equal_hosts(host, host_at(PATH, 2))

    def test_other_values(self):
        for host in hosts_in_all_phases():
            for value in LISTS + TUPLES + OTHER_KINDS + ["a", "b", host.name(), repr(host)]:
                if type(value) is not Host:
                    self.assertIs(host == value, False)
                    self.assertIs(host != value, True)

    def test_repr(self):
        self.assertEqual(repr(Host("a")), "Host('a', links=[])")
        self.assertEqual(repr(Host("b", links=["d", "aa", "c"])), "Host('b', links=['aa', 'c', 'd'])")
        host = Host("b", links=["a"], log=[("a", "x")])
        host.write("hi")
        self.assertEqual(repr(host), "Host('b', links=['a'])")
        host.add_link("aa")
        self.assertEqual(repr(host), "Host('b', links=['a', 'aa'])")
        self.assertEqual(repr(turned_host(PATH, 3, 4)), "Host('e', links=['a', 'x'])")


class Copies(Case):
    def test_a_copy_is_equal(self):
        for host in hosts_in_all_phases():
            host.write("hi")
            if host.waits_for() is not None:
                host.receive(host.waits_for(), ("message", "q", "x", 0))
            twin = host.copied()
            self.assertIs(type(twin), Host)
            self.assertIsNot(twin, host)
            self.assertTrue(twin == host)
            self.assertEqual(queries(twin), queries(host))

    def test_a_copy_keeps_the_answers(self):
        host = reserved_host(PATH, 2, 0)
        host.receive("b", ("no", PATH, 2))
        self.assertEqual(host.copied().answers(), [(PATH, 2, "refused")])

    def test_changes_of_a_copy_have_no_effect_on_the_first_and_the_other_way_round(self):
        def asked(host):
            host.receive(host.waits_for(), ("message", "q", "x", 0))

        for change in [lambda host: host.write("hi"), lambda host: host.add_link("y"), asked]:
            host, untouched = turned_host(PATH, 2, 4), turned_host(PATH, 2, 4)
            twin = host.copied()
            change(twin)
            self.assertTrue(host == untouched)
            self.assertFalse(twin == host)
            twin = host.copied()
            change(host)
            self.assertTrue(twin == untouched)

    def test_a_copy_goes_on_by_itself(self):
        host = reserved_host(PATH, 2, 0)
        twin = host.copied()
        self.assertEqual(twin.receive("b", ("yes", PATH, 2)), [("b", ("go", PATH, 2))])
        twin.receive("b", ("back", PATH, 2))
        self.assertEqual([host.phase(), host.links(), host.answers()], ["reserved", ["b", "x"], []])
        self.assertEqual([twin.phase(), twin.links(), twin.answers()], ["free", ["b", "e", "x"], [(PATH, 2, "done")]])
        host.receive("b", ("no", PATH, 2))
        self.assertEqual([host.answers(), twin.answers()], [[(PATH, 2, "refused")], [(PATH, 2, "done")]])


class Writing(Case):
    def test_a_free_host(self):
        host = Host("b", links=["c", "a", "aa"], log=[("a", "x")])
        item = ("message", "b", "hi", 0)
        self.assertEqual(host.write("hi"), [("a", item), ("aa", item), ("c", item)])
        self.assertEqual(host.log(), [("a", "x"), ("b", "hi")])

    def test_equal_messages(self):
        host = Host("b", links=["a"])
        for count in range(1, 4):
            self.assertEqual(host.write(word="v2"), [("a", ("message", "b", "v2", 0))])
            self.assertEqual(host.log(), [("b", "v2")] * count)

    def test_without_links(self):
        host = Host("b")
        self.assertEqual([host.write("hi"), host.log()], [[], [("b", "hi")]])

    def test_every_phase_and_place(self):
        rows = [
            (reserved_host(PATH, 2, 0), [("b", 0), ("x", 0)]), (reserved_host(PATH, 2, 1), [("a", 0), ("c", 0), ("x", 0)]),
            (reserved_host(PATH, 2, 2), [("b", 0), ("d", 0), ("x", 0)]),
            (reserved_host(PATH, 2, 3), [("c", 0), ("e", 0), ("x", 0)]),
            (turned_host(PATH, 2, 0), [("b", 0), ("e", 0), ("x", 0)]),
            (turned_host(PATH, 2, 1), [("a", 1), ("c", 0), ("x", 0)]), (turned_host(PATH, 2, 3), [("e", 1), ("x", 0)]),
            (turned_host(PATH, 1, 3), [("c", 0), ("e", 1), ("x", 0)]), (turned_host(PATH, 1, 2), [("d", 1), ("x", 0)]),
            (turned_host(PATH, 2, 4), [("a", 0), ("d", 0), ("x", 0)]), (turned_host(PATH, 3, 4), [("a", 0), ("x", 0)]),
            (turned_host(PATH, 3, 2), [("b", 1), ("d", 0), ("x", 0)]),
        ]
        for host, bits in rows:
            phase, relink = host.phase(), host.relink()
            self.assertEqual(host.write("hi"), [(goal, ("message", host.name(), "hi", bit)) for goal, bit in bits])
            self.assertEqual([host.log(), host.phase(), host.relink()], [[(host.name(), "hi")], phase, relink])

    def test_a_host_that_waits_writes_at_once(self):
        host = turned_host(PATH, 2, 4)
        host.receive("a", ("message", "a", "first", 0))
        self.assertEqual(len(host.write("second")), 3)
        self.assertEqual([host.log(), host.queue()], [[("e", "second")], [("message", "a", "first", 0)]])

    def test_no_word(self):
        for host in hosts_in_all_phases():
            before = host.copied()
            for value in OTHER_KINDS + LISTS + TUPLES + WRONG_WORDS:
                self.assert_error(InvalidWord, {"value": value}, host.write, value)
            self.assertTrue(host == before)


class NewLeaves(Case):
    def test_it_is_added(self):
        host = Host("b", links=["c"])
        self.assertIsNone(host.add_link(other="a"))
        self.assertIsNone(host.add_link("d"))
        self.assertEqual(host.links(), ["a", "c", "d"])
        self.assertEqual([goal for goal, _ in host.write("hi")], ["a", "c", "d"])

    def test_in_every_phase(self):
        for host in hosts_in_all_phases():
            before = queries(host)
            host.add_link("new")
            after = queries(host)
            self.assertEqual(after[2], sorted(before[2] + ["new"]))
            self.assertEqual(after[:2] + after[3:], before[:2] + before[3:])

    def test_no_name(self):
        host = Host("b", links=["c"])
        for value in NO_NAMES:
            self.assert_error(InvalidName, {"value": value}, host.add_link, value)
        self.assertTrue(host == Host("b", links=["c"]))

    def test_a_name_that_is_taken(self):
        host = Host("b", links=["c", "a"])
        for value in ["a", "b", "c"]:
            self.assert_error(NameTaken, {"value": value}, host.add_link, value)
        self.assertTrue(host == Host("b", links=["a", "c"]))

    def test_a_name_that_is_free_again(self):
        host = Host("b", links=["c", "a"])
        host.receive("a", ("bye",))
        host.add_link("a")
        self.assertEqual(host.links(), ["a", "c"])


class Leaving(Case):
    def test_a_leaf(self):
        self.assertEqual(Host("b", links=["c"], log=[("b", "x")]).leave(), [("c", ("bye",))])

    def test_after_a_bye(self):
        host = Host("b", links=["a", "c"])
        host.receive("a", ("bye",))
        self.assertEqual(host.leave(), [("c", ("bye",))])

    def test_no_leaf(self):
        for links in [[], ["a", "c"], ["a", "c", "d"]]:
            host = Host("b", links=links)
            self.assert_error(NotALeaf, {"host": "b"}, host.leave)
            self.assertTrue(host == Host("b", links=links))

    def test_a_host_that_is_not_free(self):
        first = reserved_host(PATH, 2, 0, sides=())
        last = turned_host(PATH, 3, 4, sides=())
        self.assertEqual([len(first.links()), len(last.links())], [1, 1])
        for host in [first, last] + hosts_in_all_phases()[2:]:
            before = host.copied()
            self.assert_error(Busy, {"host": host.name()}, host.leave)
            self.assertTrue(host == before)

    def test_a_host_that_is_free_again(self):
        host = reserved_host(PATH, 2, 0, sides=())
        host.receive("b", ("no", PATH, 2))
        self.assertEqual(host.leave(), [("b", ("bye",))])


class WrongAsks(Case):
    def test_no_relink(self):
        for host in hosts_in_all_phases():
            before = host.copied()
            for path, cut in WRONG_PAIRS:
                self.assert_error_with_pair(InvalidRelink, (path, cut), host.ask, path, cut)
            for value in NO_NAMES:
                self.assert_error_with_pair(InvalidRelink, (value, value), host.ask, value, value)
                self.assert_error_with_pair(InvalidRelink, (value, 9), host.ask, cut=9, path=value)
            self.assertTrue(host == before)

    def test_another_first_host(self):
        host = Host("b", links=["a", "c"])
        for path in [("a", "b", "c"), ("c", "b", "a"), ("x", "y", "z"), ("bb", "a", "x")]:
            self.assert_error_with_pair(InvalidRelink, (path, 0), host.ask, path, 0)
        self.assertTrue(host == Host("b", links=["a", "c"]))

    def test_a_host_that_is_not_free(self):
        for host in hosts_in_all_phases()[2:]:
            before = host.copied()
            self.assert_error(Busy, {"host": host.name()}, host.ask, (host.name(), "x", "y"), 1)
            self.assert_error(Busy, {"host": host.name()}, host.ask, (host.name(), "notlinkd", "y"), 1)
            self.assertTrue(host == before)

    def test_a_second_host_that_is_not_linked(self):
        host = Host("b", links=["a", "c"])
        for second in ["d", "aa", "x"]:
            self.assert_error(NotLinked, {"host": "b", "other": second}, host.ask, ("b", second, "a"), 0)
        self.assertTrue(host == Host("b", links=["a", "c"]))
        self.assert_error(NotLinked, {"host": "q", "other": "a"}, Host("q").ask, ("q", "a", "b"), 1)

    def test_the_order_of_the_errors(self):
        host = reserved_host(PATH, 2, 1)
        self.assert_error_with_pair(InvalidRelink, (("a", "x", "y"), 1), host.ask, ("a", "x", "y"), 1)
        self.assert_error_with_pair(InvalidRelink, (("b", "q", "y"), 2), host.ask, ("b", "q", "y"), 2)
        self.assert_error(Busy, {"host": "b"}, host.ask, ("b", "q", "y"), 1)


class WrongReceipts(Case):
    def test_no_source(self):
        for host in hosts_in_all_phases():
            before = host.copied()
            for value in NO_NAMES:
                self.assert_error(InvalidName, {"value": value}, host.receive, value, ("message", "a", "x", 0))
                self.assert_error(InvalidName, {"value": value}, host.receive, item=("bye",), source=value)
            self.assertTrue(host == before)

    def test_no_item(self):
        for host in hosts_in_all_phases():
            before = host.copied()
            for value in NO_ITEMS:
                self.assert_error(InvalidItem, {"value": value}, host.receive, "x", value)
                self.assert_error(InvalidItem, {"value": value}, host.receive, host.waits_for() or "y", value)
            self.assertTrue(host == before)

    def test_the_source_is_checked_first(self):
        host = Host("b", links=["a"])
        self.assert_error(InvalidName, {"value": "A"}, host.receive, "A", None)
        self.assert_error(InvalidName, {"value": None}, host.receive, None, ("bye", "a"))
        self.assertTrue(host == Host("b", links=["a"]))

    def test_by_name(self):
        host = Host("b", links=["a"])
        self.assertEqual(host.receive(item=("message", "a", "x", 1), source="a"), [])
        self.assertEqual(host.log(), [("a", "x")])

    def test_every_item_can_be_queued(self):
        host = turned_host(PATH, 2, 4)
        for item in ITEMS:
            self.assertEqual(host.receive("a", item), [])
        self.assertEqual(host.queue(), ITEMS)
