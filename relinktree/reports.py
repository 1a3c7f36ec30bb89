"""Reports: why a host waits, and where the copies of a message are."""

from relinktree.integers import is_integer_from
from relinktree.names import is_host_name, is_word
from relinktree.relinks import is_near

BYE_ITEM = ("bye",)
# Stands for the index of an item that is in the queue of its goal.
QUEUED = -1


def reason(network, host):
    """The list of tuples (host, kind, source, goal, ahead) why the host waits; empty if it waits for nobody."""
    if network.member(host).waits_for() is None:
        return []
    rows = [reason_row(network, host)]
    # An item in a queue gets on when the host that queues it stops waiting, so that host's reason comes next.
    while rows[-1][4] == QUEUED:
        rows.append(reason_row(network, rows[-1][3]))
    return rows


def reason_row(network, host):
    """The tuple of the one item on the way that brings the barrier of the waiting host nearer."""
    relink = network.member(host).relink()
    for source, goal, index, item in placed_items(network):
        if brings_nearer(item, goal, relink, host):
            return (host, item[0], source, goal, index)
    return bye_row(network, host, relink)


def brings_nearer(item, goal, relink, host):
    """Whether the item, on its way to the goal, is one that the first or last host of the relink waits for."""
    if item[1:] != relink:
        return False
    # The first host may ask for the same relink again while an older "go" is on the far side, where the last host
    # still waits for it: so neither of the two counts what the other one waits for.
    if host == relink[0][-1]:
        return item[0] in ("yes", "go")
    return item[0] != "go" or is_near(relink, goal)


def bye_row(network, host, relink):
    """The tuple of the "bye" of the host that left before the "ask" of the relink reached it."""
    path = relink[0]
    # The hosts ahead of the one that left are reserved and so all present: its "bye" is the first one along the path.
    found = [(source, goal) for goal, source in zip(path[:-1], path[1:]) if BYE_ITEM in network.in_flight(source, goal)]
    source, goal = found[0]
    return (host, "bye", source, goal, network.in_flight(source, goal).index(BYE_ITEM))


def is_reason(network, host, value):
    """Whether the value, of any kind, is the reason why the host waits."""
    rows = reason(network, host)
    if not isinstance(value, list) or len(value) != len(rows):
        return False
    return all([is_same_row(part, row) for part, row in zip(value, rows)])


def is_same_row(value, row):
    """Whether the value, of any kind, is the tuple of a reason."""
    if not isinstance(value, tuple) or len(value) != len(row):
        return False
    # Only strings and integers are compared: values of other kinds may claim to be equal to any.
    if not all([isinstance(part, str) for part in value[:4]]) or not is_integer_from(value[4], QUEUED):
        return False
    return value == row


def whereabouts(network, writer, word):
    """The pair of the sorted lists of (host, count) and of (source, goal, index) of a message."""
    if not is_host_name(writer) or not is_word(word):
        return ([], [])
    counts = [(host, network.member(host).log().count((writer, word))) for host in network.hosts()]
    logs = [(host, count) for host, count in counts if count > 0]
    start = ("message", writer, word)
    copies = [(source, goal, index) for source, goal, index, item in placed_items(network) if item[:3] == start]
    return (logs, sorted(copies))


def placed_items(network):
    """The list of tuples (source, goal, index, item) of all items in channels and in queues."""
    rows = []
    for source, goal in network.busy():
        items = network.in_flight(source, goal)
        rows += [(source, goal, index, item) for index, item in enumerate(items)]
    for goal in network.hosts():
        member = network.member(goal)
        rows += [(member.waits_for(), goal, QUEUED, item) for item in member.queue()]
    return rows
