"""Channels: the items in flight between hosts."""

from relinktree.errors import EmptyChannel, InvalidName
from relinktree.items import check_item
from relinktree.names import is_host_name


class Channels:
    """One channel for each ordered pair of different hosts, all empty at first."""

    def __init__(self):
        # Only busy channels are kept, so that two objects are equal whatever passed through them before.
        self.held = {}

    def __eq__(self, other):
        return isinstance(other, Channels) and self.held == other.held

    def __len__(self):
        return len([item for pair in self.held for item in self.held[pair]])

    def put(self, source, goal, item):
        """Appends the item to the channel."""
        if not is_host_name(source):
            raise InvalidName(source)
        if not is_host_name(goal) or goal == source:
            raise InvalidName(goal)
        check_item(item)
        self.held.setdefault((source, goal), []).append(item)

    def take(self, source, goal):
        """Removes the first item of the channel and returns it."""
        items = self.in_flight(source, goal)
        if not items:
            raise EmptyChannel(source, goal)
        if len(items) == 1:
            del self.held[(source, goal)]
        else:
            self.held[(source, goal)] = items[1:]
        return items[0]

    def in_flight(self, source, goal):
        """The list of the items in the channel, the first one first."""
        # Only names are looked up: other values need not be possible keys.
        if not is_host_name(source) or not is_host_name(goal):
            return []
        return list(self.held.get((source, goal), []))

    def busy(self):
        """The sorted list of the pairs (source, goal) whose channels hold items."""
        return sorted(self.held)

    def discard_to(self, goal):
        """Removes all items in flight to the goal and returns how many there were."""
        before = len(self)
        # Only a name is compared: values of other kinds may claim to be equal to any.
        if is_host_name(goal):
            self.held = {pair: self.held[pair] for pair in self.held if pair[1] != goal}
        return before - len(self)

    def copied(self):
        """An equal, independent Channels."""
        twin = Channels()
        twin.held = {pair: list(self.held[pair]) for pair in self.held}
        return twin
