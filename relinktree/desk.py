"""The desk: a network that is led by commands, each of them one line of text."""

from relinktree.errors import InvalidCommand, InvalidText, NoNetwork
from relinktree.integers import parse_number
from relinktree.items import item_text
from relinktree.names import is_host_name
from relinktree.networks import EVENT_SIZES, Network
from relinktree.relinks import relink_text
from relinktree.reports import reason
from relinktree.runs import settle
from relinktree.texts import parse_event
from relinktree.trees import Tree

NOTHING = "-"


class Desk:
    """Executes commands on its network; it has none at first."""

    def __init__(self):
        self.current = None
        # The networks before each event and settle since the last tree, for undo.
        self.earlier = []
        self.entries = []

    def execute(self, command):
        """Executes the command and returns its answer."""
        # Logged ahead without an answer, which is what stays if an error is raised.
        self.entries.append((command if isinstance(command, str) else None, None))
        answer = self.answer_to(command)
        self.entries[-1] = (command, answer)
        return answer

    def log(self):
        """The list of tuples (command, answer), with None for what raised an error or is no string."""
        return list(self.entries)

    def network(self):
        """A copy of the network."""
        self.check_network()
        return self.current.copied()

    def check_network(self):
        """Raises NoNetwork if there is none."""
        if self.current is None:
            raise NoNetwork()

    def answer_to(self, command):
        """Does what the command says and returns its answer."""
        word, values = parsed_command(command)
        if word == "tree":
            return self.start(values)
        self.check_network()
        if word in EVENT_SIZES:
            return self.do_event(values)
        if word == "settle":
            return self.run(values)
        if word == "undo":
            return self.undo()
        query = QUERIES[word]
        return query(self.current, values)

    def start(self, values):
        """A new network, whose tree has these hosts and links."""
        hosts, links = values
        self.current = Network(Tree(hosts, links))
        self.earlier = []
        return "ok"

    def do_event(self, event):
        """Does the event."""
        twin = self.current.copied()
        item = twin.do(event)
        self.keep_changed(twin)
        return "ok" if item is None else item_text(item)

    def run(self, choices):
        """Delivers until rest."""
        twin = self.current.copied()
        count = settle(twin, choices=choices)
        self.keep_changed(twin)
        return str(count)

    def keep_changed(self, twin):
        """Puts the changed copy in the place of the network, which stays for undo."""
        self.earlier.append(self.current)
        self.current = twin

    def undo(self):
        """Takes back the last event or settle."""
        if not self.earlier:
            return "nothing"
        self.current = self.earlier.pop()
        return "ok"


def parsed_command(command):
    """The first word of the command and the values of its parts; raises InvalidCommand if it is none."""
    if not isinstance(command, str):
        raise InvalidCommand(command)
    word, *parts = command.split(" ")
    values = parsed_parts(command, word, parts)
    if values is None:
        raise InvalidCommand(command)
    return (word, values)


def parsed_parts(command, word, parts):
    """The values of the parts of a command that begins with the word, or None if they are none."""
    if word == "tree":
        return parsed_tree(parts)
    if word in EVENT_SIZES:
        return parsed_event(command)
    if word == "settle":
        numbers = [parse_number(part) for part in parts]
        return None if None in numbers else numbers
    if word not in NAME_COUNTS or len(parts) != NAME_COUNTS[word]:
        return None
    return parts if all([is_host_name(part) for part in parts]) else None


def parsed_event(command):
    """The event that is written like the command, or None."""
    try:
        return parse_event(command)
    except InvalidText:
        return None


def parsed_tree(parts):
    """The pair of the hosts and the links, whether they are a tree or not, or None."""
    if len(parts) != 2:
        return None
    hosts = parts[0].split(",")
    links = [] if parts[1] == NOTHING else [tuple(part.split("-")) for part in parts[1].split(",")]
    names = hosts + [name for link in links for name in link]
    if not all([is_host_name(name) for name in names]) or not all([len(link) == 2 for link in links]):
        return None
    return (hosts, links)


def joined(texts, separator):
    """The texts with the separator between them, or the sign for nothing."""
    return separator.join(texts) if texts else NOTHING


def log_answer(network, names):
    """The messages of the log."""
    return joined([f"{writer}:{word}" for writer, word in network.member(names[0]).log()], " ")


def links_answer(network, names):
    """The hosts that it is linked to."""
    return joined(network.member(names[0]).links(), " ")


def hosts_answer(network, names):
    """The present hosts."""
    return joined(network.hosts(), " ")


def phase_answer(network, names):
    """The phase, with the relink if there is one."""
    member = network.member(names[0])
    if member.relink() is None:
        return member.phase()
    return f"{member.phase()} {relink_text(member.relink())}"


def flight_answer(network, names):
    """The items in the channel."""
    return joined([item_text(item) for item in network.in_flight(names[0], names[1])], "; ")


def queue_answer(network, names):
    """The items in the queue."""
    return joined([item_text(item) for item in network.member(names[0]).queue()], "; ")


def why_answer(network, names):
    """The tuples of the reason."""
    return joined([" ".join([str(part) for part in row]) for row in reason(network, names[0])], "; ")


def rest_answer(network, names):
    """Whether the network is at rest."""
    return "yes" if network.is_at_rest() else "no"


# How many host names follow the word of a command that has nothing but such parts.
NAME_COUNTS = {
    "undo": 0, "hosts": 0, "rest": 0, "log": 1, "links": 1, "phase": 1, "queue": 1, "why": 1, "flight": 2,
}

QUERIES = {
    "log": log_answer, "links": links_answer, "hosts": hosts_answer, "phase": phase_answer, "flight": flight_answer,
    "queue": queue_answer, "why": why_answer, "rest": rest_answer,
}
