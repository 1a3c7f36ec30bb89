"""Hosts: what each of them logs, sends and waits for."""

from relinktree.errors import Busy, InvalidName, InvalidRelink, InvalidWord, NameTaken, NotALeaf, NotLinked
from relinktree.items import check_item
from relinktree.names import is_host_name, is_word
from relinktree.relinks import is_relink, position
from relinktree.roles import control_step, forwards


class Host:
    """A host with its log, its links and its part in a relink; it is free at first."""

    def __init__(self, name, *, links=(), log=()):
        self.own_name = name
        self.linked = sorted(set(links))
        self.logged = list(log)
        self.joined = None
        self.stage = "free"
        self.queued = []
        self.finished = []

    def __eq__(self, other):
        return (
            isinstance(other, Host) and self.own_name == other.own_name and self.linked == other.linked
            and self.logged == other.logged and self.joined == other.joined and self.stage == other.stage
            and self.queued == other.queued and self.finished == other.finished
        )

    def __repr__(self):
        return f"Host({self.own_name!r}, links={self.linked!r})"

    def name(self):
        """The name of the host."""
        return self.own_name

    def log(self):
        """The list of the messages, in the order in which the host logged them."""
        return list(self.logged)

    def links(self):
        """The sorted list of the hosts that it sends to."""
        return list(self.linked)

    def answers(self):
        """The list of tuples (path, cut, outcome) of its finished asks, in order."""
        return list(self.finished)

    def relink(self):
        """The relink in which the host takes part, or None."""
        return self.joined

    def phase(self):
        """Its phase in the relink, or "free"."""
        return self.stage

    def waits_for(self):
        """The host whose items it queues, or None."""
        # Not stored, because it follows from the relink: both ends wait for each other while they take part.
        if self.joined is None:
            return None
        path = self.joined[0]
        if self.own_name == path[0]:
            return path[-1]
        return path[0] if self.own_name == path[-1] else None

    def queue(self):
        """The list of the queued items, the first one first."""
        return list(self.queued)

    def write(self, word):
        """The host writes a message; returns what it sends."""
        if not is_word(word):
            raise InvalidWord(word)
        return self.log_and_forward(self.own_name, word)

    def ask(self, path, cut):
        """The host asks for a relink; returns what it sends."""
        relink = (path, cut)
        if not is_relink(relink) or path[0] != self.own_name:
            raise InvalidRelink(relink)
        self.check_free()
        if path[1] not in self.linked:
            raise NotLinked(self.own_name, path[1])
        self.joined = relink
        self.stage = "reserved"
        return [(path[1], ("ask", path, cut))]

    def receive(self, source, item):
        """The host receives an item; returns what it sends."""
        if not is_host_name(source):
            raise InvalidName(source)
        check_item(item)
        return self.accept(source, item)

    def add_link(self, other):
        """Adds a link to a new leaf."""
        if not is_host_name(other):
            raise InvalidName(other)
        if other == self.own_name or other in self.linked:
            raise NameTaken(other)
        self.join_to(other)

    def leave(self):
        """The host leaves; returns what it sends."""
        self.check_free()
        if len(self.linked) != 1:
            raise NotALeaf(self.own_name)
        return [(self.linked[0], ("bye",))]

    def copied(self):
        """An equal, independent host."""
        twin = Host(self.own_name, links=self.linked, log=self.logged)
        twin.joined = self.joined
        twin.stage = self.stage
        twin.queued = list(self.queued)
        twin.finished = list(self.finished)
        return twin

    def check_free(self):
        """Raises Busy if the host takes part in a relink."""
        if self.joined is not None:
            raise Busy(self.own_name)

    def join_to(self, other):
        """Adds the other host to the links."""
        self.linked = sorted([*self.linked, other])

    def part_from(self, other):
        """Removes the other host from the links."""
        self.linked = [link for link in self.linked if link != other]

    def log_and_forward(self, writer, word, source=None, bit=0):
        """Logs a message and returns what the host sends on."""
        self.logged.append((writer, word))
        goals = forwards(
            self.linked, source=source, bit=bit, relink=self.joined, host=self.own_name, phase=self.stage
        )
        return [(goal, ("message", writer, word, sent)) for goal, sent in goals]

    def accept(self, source, item):
        """Queues the item or acts on it; returns what the host sends."""
        if self.waits_for() == source:
            self.queued.append(item)
            return []
        if item[0] == "message":
            return self.log_and_forward(item[1], item[2], source, item[3])
        if item[0] == "bye":
            return self.accept_bye(source)
        kind, path, cut = item
        if kind == "ask" and not self.can_join((path, cut)):
            return [(source, ("no", path, cut))]
        return self.act((path, cut), kind)

    def accept_bye(self, source):
        """The source has left; an "ask" that was in flight to it is lost, so nobody else will answer it."""
        self.part_from(source)
        if self.stage == "reserved" and self.next_host(self.joined) == source:
            return self.act(self.joined, "no")
        return []

    def can_join(self, relink):
        """Whether the host is free and is the last host of the relink or linked to the next one."""
        if self.joined is not None:
            return False
        return self.own_name == relink[0][-1] or self.next_host(relink) in self.linked

    def next_host(self, relink):
        """The host behind this one on the path of the relink; this one is not the last."""
        return relink[0][position(relink, self.own_name) + 1]

    def act(self, relink, kind):
        """Does what the control item of the relink asks for; returns what the host sends."""
        steps, phase, added, removed, outcome = control_step(relink, self.own_name, kind)
        awaited = self.waits_for()
        if added is not None:
            self.join_to(added)
        if removed is not None:
            self.part_from(removed)
        if outcome is not None:
            self.finished.append((*relink, outcome))
        self.stage = phase
        self.joined = None if phase == "free" else relink
        sends = [(goal, (step, *relink)) for goal, step in steps]
        return sends if self.joined is not None else sends + self.process_queue(awaited)

    def process_queue(self, awaited):
        """Receives the queued items from the host that was waited for; returns what the host sends."""
        items = list(self.queued)
        self.queued = []
        sends = []
        for item in items:
            sends += self.accept(awaited, item)
        return sends
