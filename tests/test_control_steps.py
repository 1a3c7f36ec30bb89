from relinktree.errors import InvalidRelink, InvalidStep, UnknownHost
from relinktree.roles import control_step
from tests.support import KINDS, NO_NAMES, NO_RELINKS, Case

PATHS = [("a", "b", "c"), ("c", "a", "b"), ("d", "b", "a", "c"), ("e", "d", "c", "b", "a"), tuple("fbdacegh")]

# What each host of a path of five does, for every cut and every kind that it receives.
STEPS = {
    0: {
        "a": {
            "no": ([], "free", None, None, "refused"),
            "yes": ([("b", "go")], "free", "e", "b", "done"),
        },
        "b": {
            "ask": ([("c", "ask")], "reserved", None, None, None),
            "no": ([("a", "no")], "free", None, None, None),
            "yes": ([("a", "yes")], "turned", None, "a", None),
            "go": ([("c", "go")], "free", None, None, None),
        },
        "c": {
            "ask": ([("d", "ask")], "reserved", None, None, None),
            "no": ([("b", "no")], "free", None, None, None),
            "yes": ([("b", "yes")], "turned", None, None, None),
            "go": ([("d", "go")], "free", None, None, None),
        },
        "d": {
            "ask": ([("e", "ask")], "reserved", None, None, None),
            "no": ([("c", "no")], "free", None, None, None),
            "yes": ([("c", "yes")], "turned", None, None, None),
            "go": ([("e", "go")], "free", None, None, None),
        },
        "e": {
            "ask": ([("d", "yes")], "turned", "a", None, None),
            "go": ([], "free", None, None, None),
        },
    },
    1: {
        "a": {
            "no": ([], "free", None, None, "refused"),
            "yes": ([("b", "go")], "turned", "e", None, None),
            "back": ([], "free", None, None, "done"),
        },
        "b": {
            "ask": ([("c", "ask")], "reserved", None, None, None),
            "no": ([("a", "no")], "free", None, None, None),
            "yes": ([("a", "yes")], "reserved", None, None, None),
            "go": ([("c", "go"), ("a", "back")], "free", None, "c", None),
        },
        "c": {
            "ask": ([("d", "ask")], "reserved", None, None, None),
            "no": ([("b", "no")], "free", None, None, None),
            "yes": ([("b", "yes")], "turned", None, "b", None),
            "go": ([("d", "go")], "free", None, None, None),
        },
        "d": {
            "ask": ([("e", "ask")], "reserved", None, None, None),
            "no": ([("c", "no")], "free", None, None, None),
            "yes": ([("c", "yes")], "turned", None, None, None),
            "go": ([("e", "go")], "free", None, None, None),
        },
        "e": {
            "ask": ([("d", "yes")], "turned", "a", None, None),
            "go": ([], "free", None, None, None),
        },
    },
    2: {
        "a": {
            "no": ([], "free", None, None, "refused"),
            "yes": ([("b", "go")], "turned", "e", None, None),
            "back": ([], "free", None, None, "done"),
        },
        "b": {
            "ask": ([("c", "ask")], "reserved", None, None, None),
            "no": ([("a", "no")], "free", None, None, None),
            "yes": ([("a", "yes")], "reserved", None, None, None),
            "go": ([("c", "go")], "turned", None, None, None),
            "back": ([("a", "back")], "free", None, None, None),
        },
        "c": {
            "ask": ([("d", "ask")], "reserved", None, None, None),
            "no": ([("b", "no")], "free", None, None, None),
            "yes": ([("b", "yes")], "reserved", None, None, None),
            "go": ([("d", "go"), ("b", "back")], "free", None, "d", None),
        },
        "d": {
            "ask": ([("e", "ask")], "reserved", None, None, None),
            "no": ([("c", "no")], "free", None, None, None),
            "yes": ([("c", "yes")], "turned", None, "c", None),
            "go": ([("e", "go")], "free", None, None, None),
        },
        "e": {
            "ask": ([("d", "yes")], "turned", "a", None, None),
            "go": ([], "free", None, None, None),
        },
    },
    3: {
        "a": {
            "no": ([], "free", None, None, "refused"),
            "yes": ([("b", "go")], "turned", "e", None, None),
            "back": ([], "free", None, None, "done"),
        },
        "b": {
            "ask": ([("c", "ask")], "reserved", None, None, None),
            "no": ([("a", "no")], "free", None, None, None),
            "yes": ([("a", "yes")], "reserved", None, None, None),
            "go": ([("c", "go")], "turned", None, None, None),
            "back": ([("a", "back")], "free", None, None, None),
        },
        "c": {
            "ask": ([("d", "ask")], "reserved", None, None, None),
            "no": ([("b", "no")], "free", None, None, None),
            "yes": ([("b", "yes")], "reserved", None, None, None),
            "go": ([("d", "go")], "turned", None, None, None),
            "back": ([("b", "back")], "free", None, None, None),
        },
        "d": {
            "ask": ([("e", "ask")], "reserved", None, None, None),
            "no": ([("c", "no")], "free", None, None, None),
            "yes": ([("c", "yes")], "reserved", None, None, None),
            "go": ([("e", "go"), ("c", "back")], "free", None, "e", None),
        },
        "e": {
            "ask": ([("d", "yes")], "turned", "a", "d", None),
            "go": ([], "free", None, None, None),
        },
    },
}


def is_never_received(path, cut, host, kind):
    """The document's list of kinds that raise InvalidStep."""
    return (
        (host == path[0] and kind in ("ask", "go")) or (host == path[-1] and kind in ("no", "yes", "back"))
        or (host in path[cut:] and kind == "back")
    )


class Steps(Case):
    def test_every_host_and_every_kind_of_a_path_of_five(self):
        for cut, hosts in STEPS.items():
            relink = (("a", "b", "c", "d", "e"), cut)
            for host, kinds in hosts.items():
                for kind in KINDS:
                    if kind in kinds:
                        self.assertEqual(control_step(relink, host, kind), kinds[kind], (cut, host, kind))
                    else:
                        self.assert_error(InvalidStep, {"host": host, "kind": kind}, control_step, relink, host, kind)

    def test_paths_of_three(self):
        for path in [("a", "b", "c"), ("c", "a", "b")]:
            first, middle, last = path
            for cut in (0, 1):
                relink = (path, cut)
                removed = [(first, None), (None, middle)][cut]
                self.assertEqual(control_step(relink, middle, "yes")[3], removed[0])
                self.assertEqual(control_step(relink, last, "ask")[3], removed[1])
            self.assertEqual(
                control_step((path, 0), first, "yes"), ([(middle, "go")], "free", last, middle, "done")
            )
            self.assertEqual(control_step((path, 0), middle, "go"), ([(last, "go")], "free", None, None, None))
            self.assertEqual(
                control_step((path, 1), middle, "go"), ([(last, "go"), (first, "back")], "free", None, last, None)
            )

    def test_which_kinds_every_host_receives(self):
        for path in PATHS:
            for cut in range(len(path) - 1):
                for host in path:
                    for kind in KINDS:
                        if is_never_received(path, cut, host, kind):
                            fields = {"host": host, "kind": kind}
                            self.assert_error(InvalidStep, fields, control_step, (path, cut), host, kind)
                        else:
                            self.assertEqual(len(control_step((path, cut), host, kind)), 5)

    def test_what_is_sent_is_received(self):
        for path in PATHS:
            for cut in range(len(path) - 1):
                for host in path:
                    for kind in KINDS:
                        if not is_never_received(path, cut, host, kind):
                            for goal, sent in control_step((path, cut), host, kind)[0]:
                                self.assertEqual(abs(path.index(goal) - path.index(host)), 1)
                                self.assertFalse(is_never_received(path, cut, goal, sent), (path, cut, goal, sent))

    def test_the_links_that_are_added_and_removed(self):
        for path in PATHS:
            for cut in range(len(path) - 1):
                added, removed = set(), set()
                for host in path:
                    for kind in KINDS:
                        if not is_never_received(path, cut, host, kind):
                            step = control_step((path, cut), host, kind)
                            added |= {(host, step[2])} if step[2] is not None else set()
                            removed |= {(host, step[3])} if step[3] is not None else set()
                near, far = path[cut], path[cut + 1]
                self.assertEqual(added, {(path[0], path[-1]), (path[-1], path[0])})
                self.assertEqual(removed, {(near, far), (far, near)})

    def test_kinds_of_the_result(self):
        step = control_step((("a", "b", "c"), 1), "b", "go")
        self.assertIs(type(step), tuple)
        self.assertIs(type(step[0]), list)
        self.assertTrue(all(type(pair) is tuple for pair in step[0]))

    def test_by_name(self):
        step = control_step(kind="ask", host="b", relink=(("a", "b", "c"), 1))
        self.assertEqual(step, ([("c", "ask")], "reserved", None, None, None))

    def test_returned_lists_are_new_each_time(self):
        for cut, hosts in STEPS.items():
            relink = (("a", "b", "c", "d", "e"), cut)
            for host, kinds in hosts.items():
                for kind, expected in kinds.items():
                    control_step(relink, host, kind)[0].append(("x", "ask"))
                    self.assertEqual(control_step(relink, host, kind), expected)


class Errors(Case):
    def test_no_relink(self):
        for value in NO_RELINKS:
            for host, kind in [("a", "no"), ("a", "ask"), ("x", "no"), (None, None), ([], "maybe")]:
                self.assert_error(InvalidRelink, {"value": value}, control_step, value, host, kind)

    def test_a_host_that_is_not_on_the_path(self):
        for value in NO_NAMES + ["x", "ab", "abc"]:
            for kind in [*KINDS, "maybe", None, []]:
                self.assert_error(UnknownHost, {"host": value}, control_step, (("a", "b", "c"), 0), value, kind)

    def test_a_value_that_is_no_kind_of_a_control_item(self):
        wrong = ["message", "bye", "free", "turned", "reserved", "done", "ASK", "ask ", "ye", "nono", "refused", "askno"]
        for value in NO_NAMES + wrong:
            for host in ["a", "b", "c"]:
                fields = {"host": host, "kind": value}
                self.assert_error(InvalidStep, fields, control_step, (("a", "b", "c"), 1), host, value)
