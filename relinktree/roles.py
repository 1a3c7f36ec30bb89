"""The role of a host in a relink: how it forwards messages, and what control items make it do."""

from relinktree.errors import InvalidStep
from relinktree.items import is_control_kind
from relinktree.relinks import position


def forward_bit(relink, host, phase, source, goal, bit):
    """The bit with which the host sends a message to the goal, or None if it does not send it."""
    at = position(relink, host)
    if phase != "turned":
        return 0
    path, cut = relink
    is_fresh = source is None or source not in path
    if at == 0:
        return end_bit(goal == path[-1], is_fresh or (source == path[1] and bit == 1))
    if at == len(path) - 1:
        return end_bit(goal == path[0], is_fresh or (source == path[-2] and bit == 1))
    outwards = path[at - 1] if at <= cut else path[at + 1]
    if goal != outwards:
        return 0
    return 1 if is_fresh else bit


def end_bit(is_over_new_link, may_cross):
    """The bit that a turned first or last host sends; None if the message stays on its side of the new link."""
    return None if is_over_new_link and not may_cross else 0


def forwards(links, *, source=None, bit=0, relink=None, host=None, phase="reserved"):
    """The pairs (goal, bit), sorted by goal, for a message that the host sends on."""
    goals = [goal for goal in sorted(links) if goal != source]
    if relink is None:
        return [(goal, 0) for goal in goals]
    # Checked here too, because without a goal nothing else would look at the relink.
    position(relink, host)
    bits = [forward_bit(relink, host, phase, source, goal, bit) for goal in goals]
    return [(goal, sent) for goal, sent in zip(goals, bits) if sent is not None]


def control_step(relink, host, kind):
    """What the host does with a control item, or an accepted "ask": (sends, phase, added, removed, outcome)."""
    at = position(relink, host)
    if not is_control_kind(kind) or not is_received(relink, at, kind):
        raise InvalidStep(host, kind)
    step = STEPS[kind]
    return step(relink, at)


def is_received(relink, at, kind):
    """Whether the host at this position may ever receive a control item of this kind."""
    path, cut = relink
    if kind == "back":
        return at < cut
    if at == 0:
        return kind in ("no", "yes")
    return at < len(path) - 1 or kind in ("ask", "go")


def ask_step(relink, at):
    """The host accepts "ask"; at the last host it turns around and becomes "yes"."""
    path = relink[0]
    if at < len(path) - 1:
        return ([(path[at + 1], "ask")], "reserved", None, None, None)
    return ([(path[at - 1], "yes")], "turned", path[0], link_cut_behind(relink, at), None)


def no_step(relink, at):
    """The host learns that the relink is refused."""
    if at == 0:
        return ([], "free", None, None, "refused")
    return ([(relink[0][at - 1], "no")], "free", None, None, None)


def yes_step(relink, at):
    """The host learns that all hosts behind it take part."""
    path, cut = relink
    if at == 0:
        return first_yes_step(relink)
    phase = "reserved" if at <= cut else "turned"
    return ([(path[at - 1], "yes")], phase, None, link_cut_behind(relink, at), None)


def first_yes_step(relink):
    """The first host learns that all take part; "yes" turns around and becomes "go"."""
    path, cut = relink
    sends = [(path[1], "go")]
    if cut == 0:
        return (sends, "free", path[-1], path[1], "done")
    return (sends, "turned", path[-1], None, None)


def go_step(relink, at):
    """The last messages of the old way have passed; at path[cut] "go" also becomes "back"."""
    path, cut = relink
    if at < cut:
        return ([(path[at + 1], "go")], "turned", None, None, None)
    if at == cut:
        return ([(path[at + 1], "go"), (path[at - 1], "back")], "free", None, path[at + 1], None)
    sends = [(path[at + 1], "go")] if at < len(path) - 1 else []
    return (sends, "free", None, None, None)


def back_step(relink, at):
    """The near side is done with the relink."""
    if at == 0:
        return ([], "free", None, None, "done")
    return ([(relink[0][at - 1], "back")], "free", None, None, None)


def link_cut_behind(relink, at):
    """The previous host if the removed link leads to it, else None."""
    path, cut = relink
    return path[cut] if at == cut + 1 else None


STEPS = {"ask": ask_step, "no": no_step, "yes": yes_step, "go": go_step, "back": back_step}
