"""Texts: the written forms of trees, events and histories."""

from relinktree.errors import (
    Busy, EmptyChannel, InvalidEvent, InvalidLine, InvalidText, InvalidTree, NameTaken, NotALeaf, NotLinked,
    UnknownHost,
)
from relinktree.names import is_host_name, is_word
from relinktree.networks import Network, has_event_form
from relinktree.relinks import is_relink, relink_from, relink_text
from relinktree.trees import Tree, join_ends

EVENTS_LINE = "events"


def tree_text(tree):
    """The written form of the tree."""
    hosts = [f"host {host}\n" for host in tree.hosts()]
    links = [f"link {one} {other}\n" for one, other in tree.links()]
    return "".join(hosts + links)


def parse_tree(text):
    """The tree whose written form is the text."""
    lines, rest = split_text(text)
    tree = tree_of_lines(lines)
    check_no_rest(lines, rest)
    return tree


def split_text(text):
    """The lines that end with a newline, without it, and what stands behind the last newline."""
    if not isinstance(text, str):
        raise InvalidLine(0)
    parts = text.split("\n")
    return (parts[:-1], parts[-1])


def check_no_rest(lines, rest):
    """Raises InvalidLine if there is a line without its newline behind the other lines."""
    if rest != "":
        raise InvalidLine(len(lines) + 1)


def tree_of_lines(lines):
    """The tree whose written form has these lines."""
    hosts = leading_hosts(lines)
    links = following_links(lines, hosts)
    try:
        return Tree(hosts, links)
    except InvalidTree:
        # Each line is right by itself, so there is no host, or not all of them are connected.
        raise InvalidLine(len(lines) + 1) from None


def leading_hosts(lines):
    """The hosts of the lines ahead of the first one that is no host line, or out of order."""
    hosts = []
    for line in lines:
        parts = line.split(" ")
        if len(parts) != 2 or parts[0] != "host" or not is_host_name(parts[1]):
            return hosts
        if hosts and parts[1] <= hosts[-1]:
            return hosts
        hosts.append(parts[1])
    return hosts


def following_links(lines, hosts):
    """The links of the lines behind those of the hosts; raises InvalidLine at the first that is no right one."""
    linked = {host: [] for host in hosts}
    links = []
    for index in range(len(hosts), len(lines)):
        parts = lines[index].split(" ")
        link = tuple(parts[1:])
        if parts[0] != "link" or not is_next_link(links, link):
            raise InvalidLine(index + 1)
        try:
            join_ends(linked, link)
        except InvalidTree:
            raise InvalidLine(index + 1) from None
        links.append(link)
    return links


def is_next_link(links, link):
    """Whether these are two names in ascending order that may follow the links."""
    if len(link) != 2 or not link[0] < link[1]:
        return False
    return not links or links[-1] < link


def is_event(value):
    """Whether the value, of any kind, is an event by its words, names and relinks."""
    if not has_event_form(value):
        return False
    parts = value[1:]
    if value[0] == "ask":
        return is_relink(parts)
    if value[0] == "write":
        return is_host_name(parts[0]) and is_word(parts[1])
    return all([is_host_name(part) for part in parts])


def event_text(event):
    """The written form of the event."""
    if not is_event(event):
        raise InvalidEvent(event)
    if event[0] == "ask":
        return f"ask {relink_text(event[1:])}"
    return " ".join(event)


def parse_event(text):
    """The event whose written form is the text."""
    if not isinstance(text, str):
        raise InvalidText(text)
    event = event_from(text.split(" "))
    if not is_event(event):
        raise InvalidText(text)
    return event


def event_from(parts):
    """The event with these written parts; if they are those of no event, a tuple that is none."""
    if parts[0] != "ask" or len(parts) != 3:
        return tuple(parts)
    path, cut = relink_from(parts[1], parts[2])
    return ("ask", path, cut)


def history_text(network):
    """The written form of the network's first tree and events."""
    lines = [EVENTS_LINE] + [event_text(event) for event in network.events()]
    return tree_text(network.first_tree()) + "".join([f"{line}\n" for line in lines])


def parse_history(text):
    """The network that the events of the text lead to."""
    lines, rest = split_text(text)
    size = lines.index(EVENTS_LINE) if EVENTS_LINE in lines else len(lines)
    network = Network(tree_of_lines(lines[:size]))
    if size == len(lines):
        raise InvalidLine(size + 1)
    for index in range(size + 1, len(lines)):
        do_line(network, lines[index], index + 1)
    check_no_rest(lines, rest)
    return network


def do_line(network, line, number):
    """Does the event of the line with this number."""
    try:
        network.do(parse_event(line))
    except (InvalidText, UnknownHost, EmptyChannel, Busy, NotLinked, NotALeaf, NameTaken):
        raise InvalidLine(number) from None
