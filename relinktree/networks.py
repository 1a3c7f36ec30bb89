"""Networks: the present hosts, the items in flight between them, and the events that were done."""

from relinktree.channels import Channels
from relinktree.errors import InvalidEvent, InvalidName, InvalidRelink, NameTaken, NotALeaf, UnknownHost
from relinktree.hosts import Host
from relinktree.names import is_host_name
from relinktree.relinks import is_relink
from relinktree.trees import Tree

# How many parts an event has, for each word that it can begin with.
EVENT_SIZES = {"write": 3, "ask": 3, "deliver": 3, "add": 3, "remove": 2}


class Network:
    """Hosts that send items to each other; it begins with a tree."""

    def __init__(self, tree):
        self.root = Tree(tree.hosts(), tree.links())
        # The hosts in here are replaced and never changed, so that a copy of the network may hold the same ones.
        self.members = {name: Host(name, links=tree.neighbors(name)) for name in tree.hosts()}
        self.channels = Channels()
        self.used = {name: True for name in self.members}
        self.done = []

    def __eq__(self, other):
        return (
            isinstance(other, Network) and self.members == other.members and self.channels == other.channels
            and self.used == other.used
        )

    def __len__(self):
        return len(self.members)

    def hosts(self):
        """The sorted list of the present hosts."""
        return sorted(self.members)

    def member(self, name):
        """A copy of the present host with this name."""
        # Only a string is looked up: other values need not be possible keys.
        if not is_host_name(name) or name not in self.members:
            raise UnknownHost(name)
        return self.members[name].copied()

    def first_tree(self):
        """The tree with which the network began."""
        return Tree(self.root.hosts(), self.root.links())

    def busy(self):
        """The sorted list of the pairs (source, goal) whose channels hold items."""
        return self.channels.busy()

    def in_flight(self, source, goal):
        """The list of the items in the channel, the first one first."""
        return self.channels.in_flight(source, goal)

    def is_at_rest(self):
        """Whether no channel is busy."""
        return len(self.channels) == 0

    def write(self, host, word):
        """The host writes a message."""
        member = self.member(host)
        self.keep(member, member.write(word))
        self.done.append(("write", host, word))

    def ask(self, path, cut):
        """The first host of the path asks for the relink."""
        if not is_relink((path, cut)):
            raise InvalidRelink((path, cut))
        member = self.member(path[0])
        self.keep(member, member.ask(path, cut))
        self.done.append(("ask", path, cut))

    def deliver(self, source, goal):
        """The goal receives the first item of the channel, which is returned."""
        item = self.channels.take(source, goal)
        member = self.member(goal)
        self.keep(member, member.receive(source, item))
        self.done.append(("deliver", source, goal))
        return item

    def add_leaf(self, name, *, at):
        """A new host joins as a leaf, with a copy of the log of the host that it is linked to."""
        if not is_host_name(name):
            raise InvalidName(name)
        if name in self.used:
            raise NameTaken(name)
        member = self.member(at)
        member.add_link(name)
        self.members[at] = member
        self.members[name] = Host(name, links=[at], log=member.log())
        self.used[name] = True
        self.done.append(("add", name, at))

    def remove_leaf(self, host):
        """The host leaves; what is in flight to it is discarded, what it sent stays in flight."""
        sends = self.member(host).leave()
        if len(self.members) == 1:
            raise NotALeaf(host)
        del self.members[host]
        self.channels.discard_to(host)
        self.send(host, sends)
        self.done.append(("remove", host))

    def do(self, event):
        """Does the event and returns what its method returns."""
        if not has_event_form(event):
            raise InvalidEvent(event)
        if event[0] == "write":
            return self.write(event[1], event[2])
        if event[0] == "ask":
            return self.ask(event[1], event[2])
        if event[0] == "deliver":
            return self.deliver(event[1], event[2])
        if event[0] == "add":
            return self.add_leaf(event[1], at=event[2])
        return self.remove_leaf(event[1])

    def events(self):
        """The list of the events that were done, in order."""
        return list(self.done)

    def copied(self):
        """An equal, independent network with the same events and first tree."""
        twin = Network(self.root)
        twin.members = {name: self.members[name] for name in self.members}
        twin.channels = self.channels.copied()
        twin.used = {name: True for name in self.used}
        twin.done = list(self.done)
        return twin

    def keep(self, member, sends):
        """Puts a changed copy of a host into the host's place, and what it sends into the channels."""
        self.members[member.name()] = member
        self.send(member.name(), sends)

    def send(self, source, sends):
        """Puts items into the channels; those to hosts that have left are discarded."""
        for goal, item in sends:
            if goal in self.members:
                self.channels.put(source, goal, item)


def has_event_form(value):
    """Whether the value, of any kind, is a tuple with the word of an event and as many parts."""
    # Only strings are looked up: values of other kinds may claim to be equal to any.
    if not isinstance(value, tuple) or len(value) == 0 or not isinstance(value[0], str):
        return False
    return EVENT_SIZES.get(value[0]) == len(value)
