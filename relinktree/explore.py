"""Exploration: all states that the hosts of a scenario and the channels between them can get into."""

from relinktree.errors import Busy, InvalidChoice, InvalidScript, NotLinked, TooMany, UnknownHost
from relinktree.integers import is_integer_from
from relinktree.names import is_host_name, is_word
from relinktree.networks import Network
from relinktree.relinks import is_relink


def explore(tree, scripts, *, limit=2000):
    """The number of the states of a scenario, and the sorted list of its different outcomes."""
    check_scripts(tree, scripts)
    if not is_integer_from(limit, 1):
        raise InvalidChoice(limit)
    actions = {host: list(scripts[host]) for host in sorted(scripts)}
    start = (Network(tree), {host: 0 for host in actions})
    seen = {state_key(start): True}
    outcomes = {}
    waiting = [start]
    while waiting:
        state = waiting.pop()
        following = next_states(state, actions)
        if not following:
            outcomes[outcome_of(state[0])] = True
        for later in following:
            key = state_key(later)
            if key not in seen:
                seen[key] = True
                waiting.append(later)
        if len(seen) > limit:
            raise TooMany(limit)
    return (len(seen), sorted(outcomes))


def check_scripts(tree, scripts):
    """Raises InvalidScript with the first part that is wrong."""
    if not isinstance(scripts, dict):
        raise InvalidScript(scripts)
    hosts = tree.hosts()
    for host, script in scripts.items():
        if not is_host_name(host) or host not in hosts:
            raise InvalidScript(host)
        if not isinstance(script, (list, tuple)):
            raise InvalidScript(script)
        for action in script:
            if not is_action_of(host, action):
                raise InvalidScript(action)


def is_action_of(host, value):
    """Whether the value, of any kind, is an action that the host can have in its script."""
    # Only strings are compared with the words: values of other kinds may claim to be equal to any.
    if not isinstance(value, tuple) or len(value) == 0 or not isinstance(value[0], str):
        return False
    parts = value[1:]
    if value[0] == "write":
        return len(parts) == 1 and is_word(parts[0])
    return value[0] == "ask" and is_relink(parts) and parts[0][0] == host


def next_states(state, actions):
    """The states after each next action and after each delivery; a state is a network and how many actions are done."""
    network, done = state
    states = []
    for host in actions:
        if done[host] < len(actions[host]):
            twin = network.copied()
            act(twin, host, actions[host][done[host]])
            states.append((twin, {**done, host: done[host] + 1}))
    for source, goal in network.busy():
        twin = network.copied()
        twin.deliver(source, goal)
        states.append((twin, done))
    return states


def act(network, host, action):
    """Does an action of the host; an ask that the network refuses does nothing."""
    if action[0] == "write":
        network.write(host, action[1])
        return
    try:
        network.ask(action[1], action[2])
    except (UnknownHost, Busy, NotLinked):
        pass


def state_key(state):
    """A tuple that is the same for equal states only."""
    network, done = state
    flights = [(pair, tuple(network.in_flight(pair[0], pair[1]))) for pair in network.busy()]
    rows = [member_key(network.member(host)) for host in network.hosts()]
    return (tuple(rows), tuple(flights), tuple([done[host] for host in done]))


def member_key(member):
    """A tuple that is the same for equal hosts only."""
    return (
        member.name(), tuple(member.links()), tuple(member.log()), member.relink(), member.phase(),
        tuple(member.queue()), tuple(member.answers()),
    )


def outcome_of(network):
    """The sorted tuple of the pairs (host, log)."""
    return tuple([(host, tuple(network.member(host).log())) for host in network.hosts()])
