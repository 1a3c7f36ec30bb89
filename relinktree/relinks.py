"""Relinks: pairs (path, cut) that add one link to a tree and remove another one."""

from relinktree.errors import InvalidRelink, UnknownHost
from relinktree.integers import is_index, parse_index
from relinktree.names import is_host_name

SHORTEST_PATH = 3


def is_relink(value):
    """Whether the value, of any kind, is a relink."""
    if not isinstance(value, tuple) or len(value) != 2:
        return False
    path, cut = value
    return is_relink_path(path) and is_cut_of(path, cut)


def is_relink_path(value):
    """Whether the value is a tuple of enough different host names."""
    if not isinstance(value, tuple) or len(value) < SHORTEST_PATH:
        return False
    return all([is_host_name(host) for host in value]) and len(set(value)) == len(value)


def is_cut_of(path, value):
    """Whether the value is the index of a host of the path that has a next host."""
    return is_index(value, len(path) - 1)


def check_relink(value):
    """Raises InvalidRelink for any value that is no relink."""
    if not is_relink(value):
        raise InvalidRelink(value)


def added_link(relink):
    """The link that the relink adds."""
    check_relink(relink)
    path = relink[0]
    return link_between(path[0], path[-1])


def removed_link(relink):
    """The link that the relink removes."""
    check_relink(relink)
    path, cut = relink
    return link_between(path[cut], path[cut + 1])


def link_between(one, other):
    """The two hosts as a link is reported: in ascending order."""
    return (one, other) if one < other else (other, one)


def position(relink, host):
    """The index of the host on the path of the relink."""
    check_relink(relink)
    path = relink[0]
    if not is_host_name(host) or host not in path:
        raise UnknownHost(host)
    return path.index(host)


def is_near(relink, host):
    """Whether the host of the path is on the near side of the relink."""
    return position(relink, host) <= relink[1]


def are_independent(one, other):
    """Whether no host is on the paths of both relinks."""
    check_relink(one)
    check_relink(other)
    return not any([host in other[0] for host in one[0]])


def relink_text(relink):
    """The written form of the relink: its hosts, joined by commas, and its cut."""
    path, cut = relink
    hosts = ",".join(path)
    return f"{hosts} {cut}"


def relink_from(hosts, cut):
    """The relink with these two written parts; if they are those of no relink, a pair that is none."""
    path = tuple(hosts.split(","))
    return (path, parse_index(cut, len(path) - 1))
