"""Plans: relinks that lead from one tree to another tree of the same hosts."""

from relinktree.errors import InvalidPlan, InvalidRelink, InvalidTree
from relinktree.relinks import is_relink


def plan(tree, goal):
    """A shortest list of relinks that lead from the tree to the goal."""
    if tree.hosts() != goal.hosts():
        raise InvalidTree("hosts", goal.hosts())
    relinks = []
    current = tree
    # Each step adds a link of the goal and removes one that the goal lacks, so no step is wasted.
    for one, other in goal.links():
        if not current.has_link(one, other):
            path, cut = joining_relink(current, goal, one, other)
            relinks.append((path, cut))
            current = current.relinked(path, cut)
    return relinks


def joining_relink(tree, goal, one, other):
    """A relink of the tree that links the two hosts and removes a link that the goal lacks."""
    path = tree.path(one, other)
    # There is such a link: the goal has no ring, so it lacks a link of every way between two hosts that it links.
    cuts = [cut for cut in range(len(path) - 1) if not goal.has_link(path[cut], path[cut + 1])]
    return (path, cuts[0])


def apply_plan(tree, relinks):
    """The tree after the relinks."""
    if not isinstance(relinks, (list, tuple)):
        raise InvalidPlan(None)
    current = tree
    for index, relink in enumerate(relinks):
        current = relinked_at(current, relink, index)
    return current


def relinked_at(tree, relink, index):
    """The tree after the relink at this index of a plan."""
    if not is_relink(relink):
        raise InvalidPlan(index)
    path, cut = relink
    try:
        return tree.relinked(path, cut)
    except InvalidRelink:
        raise InvalidPlan(index) from None


def is_plan(tree, goal, value):
    """Whether the value, of any kind, is a plan from the tree to the goal."""
    try:
        return apply_plan(tree, value) == goal
    except InvalidPlan:
        return False
