"""Trees of hosts and links."""

from relinktree.errors import InvalidRelink, InvalidTree, UnknownHost
from relinktree.names import is_host_name
from relinktree.relinks import added_link, is_relink, removed_link


class Tree:
    """One or more hosts, each reached from every other one in exactly one way."""

    def __init__(self, hosts, links=()):
        linked = unlinked_hosts(hosts)
        join_all(linked, links)
        check_connected(linked)
        # Kept sorted, so that equal trees hold equal values whatever order they were passed in.
        self.linked = {host: sorted(linked[host]) for host in sorted(linked)}

    def __eq__(self, other):
        return isinstance(other, Tree) and self.linked == other.linked

    def __len__(self):
        return len(self.linked)

    def __repr__(self):
        return f"Tree({self.hosts()!r}, {self.links()!r})"

    def hosts(self):
        """The sorted list of the hosts."""
        return list(self.linked)

    def links(self):
        """The sorted list of the links, each in ascending order."""
        return [(one, other) for one in self.linked for other in self.linked[one] if one < other]

    def leaves(self):
        """The sorted list of the hosts with exactly one link."""
        return [host for host in self.linked if len(self.linked[host]) == 1]

    def neighbors(self, host):
        """The sorted list of the hosts that are linked to the host."""
        check_host(self.linked, host)
        return list(self.linked[host])

    def has_link(self, one, other):
        """Whether the two values, of any kind, are linked hosts."""
        return is_host(self.linked, one) and is_host(self.linked, other) and other in self.linked[one]

    def path(self, one, other):
        """The tuple of the hosts on the way from one host to the other one, both included."""
        check_host(self.linked, one)
        check_host(self.linked, other)
        nearer = steps_towards(self.linked, other)
        way = [one]
        while way[-1] != other:
            way.append(nearer[way[-1]])
        return tuple(way)

    def relinked(self, path, cut):
        """The tree after the relink; this tree stays as it is."""
        relink = (path, cut)
        if not is_relink(relink) or not self.has_steps(path):
            raise InvalidRelink(relink)
        removed = removed_link(relink)
        kept = [link for link in self.links() if link != removed]
        return Tree(self.hosts(), [*kept, added_link(relink)])

    def has_steps(self, path):
        """Whether consecutive hosts of the path are linked."""
        return all([self.has_link(path[at], path[at + 1]) for at in range(len(path) - 1)])


def unlinked_hosts(hosts):
    """A dict from each host to its neighbors, none yet; raises InvalidTree at the first wrong host."""
    if not isinstance(hosts, (list, tuple)) or len(hosts) == 0:
        raise InvalidTree("hosts", hosts)
    linked = {}
    for host in hosts:
        if not is_host_name(host):
            raise InvalidTree("name", host)
        if host in linked:
            raise InvalidTree("duplicate", host)
        linked[host] = []
    return linked


def join_all(linked, links):
    """Adds the links to the neighbors; raises InvalidTree at the first wrong one."""
    if not isinstance(links, (list, tuple)):
        raise InvalidTree("links", links)
    for link in links:
        join_ends(linked, link)


def join_ends(linked, link):
    """Makes the two ends of the link neighbors of each other."""
    if not is_pair_of_hosts(linked, link):
        raise InvalidTree("link", link)
    one, other = link
    if other in linked[one]:
        raise InvalidTree("duplicate", link)
    if other in steps_towards(linked, one):
        raise InvalidTree("cycle", link)
    linked[one].append(other)
    linked[other].append(one)


def check_connected(linked):
    """Raises InvalidTree with the first host that the first host does not reach, in ascending order."""
    ascending = sorted(linked)
    reached = steps_towards(linked, ascending[0])
    for host in ascending:
        if host not in reached:
            raise InvalidTree("connected", host)


def is_host(linked, value):
    """Whether the value, of any kind, is one of the hosts."""
    # Only a string is looked up: other values need not be possible keys.
    return is_host_name(value) and value in linked


def check_host(linked, value):
    """Raises UnknownHost for any value that is none of the hosts."""
    if not is_host(linked, value):
        raise UnknownHost(value)


def is_pair_of_hosts(linked, value):
    """Whether the value is a tuple of two different ones of the hosts."""
    if not isinstance(value, tuple) or len(value) != 2:
        return False
    return is_host(linked, value[0]) and is_host(linked, value[1]) and value[0] != value[1]


def steps_towards(linked, goal):
    """A dict from each host that can reach the goal to the next host on its way there."""
    nearer = {goal: goal}
    waiting = [goal]
    while waiting:
        host = waiting.pop()
        for neighbor in linked[host]:
            if neighbor not in nearer:
                nearer[neighbor] = host
                waiting.append(neighbor)
    return nearer
