"""Protocols: which values are protocols, and the events of their links."""

from pullsafe.errors import BadValue
from pullsafe.kinds import is_integer, is_integer_from, is_row, is_sequence
from pullsafe.links import behind, is_ready, ready_events

WHENS = ("tick", "pull", "got 0", "got 1", "got 2", "got 3")
ACTS = ("none", "send 0", "send 1", "send 2", "send 3", "take", "tell")

MOST_STATES = 5
MOST_RULES = 12


def is_rule(value, states):
    """Tell whether value is a rule of a side with so many states."""
    if not is_row(value, 4):
        return False
    state, when, then, act = value
    if not is_integer_from(state, 0, states - 1) or not is_integer_from(then, 0, states - 1):
        return False
    if when not in WHENS or act not in ACTS:
        return False
    return when != "pull" or act == "none"


def are_different(values):
    """Tell whether no two members of a list are the same."""
    return len(set(values)) == len(values)


def is_side(value, barred):
    """Tell whether value is a side without a rule with the barred act."""
    if not is_row(value, 3):
        return False
    states, start, rules = value
    if not is_integer_from(states, 1, MOST_STATES) or not is_integer_from(start, 0, states - 1):
        return False
    if not is_sequence(rules) or len(rules) > MOST_RULES:
        return False
    if not all([is_rule(rule, states) for rule in rules]):
        return False
    pulled = [rule[0] for rule in rules if rule[1] == "pull"]
    acts = [rule[3] for rule in rules]
    return are_different([tuple(rule) for rule in rules]) and are_different(pulled) and barred not in acts


def is_protocol(value):
    """Tell whether value is a protocol."""
    return is_row(value, 2) and is_side(value[0], "tell") and is_side(value[1], "take")


def plain_side(side):
    """Return a side that consists of tuples."""
    states, start, rules = side
    return (states, start, tuple([tuple(rule) for rule in rules]))


def plain_protocol(protocol):
    """Return the protocol in tuples, or raise BadValue(0) for what is none."""
    if not is_protocol(protocol):
        raise BadValue(0)
    host, device = protocol
    return (plain_side(host), plain_side(device))


def is_link_state(protocol, value):
    """Tell whether value is a state of the protocol's link."""
    if not is_row(value, 6):
        return False
    host, device = protocol
    bounds = ((0, 1), (0, host[0] - 1), (0, device[0] - 1), (-1, 3), (-1, 3), (0, 1))
    return all([is_integer_from(part, low, high) for part, (low, high) in zip(value, bounds)])


def plain_link_state(protocol, state):
    """Return the state of the link as a tuple, or raise BadValue(1) for what is none."""
    if not is_link_state(protocol, state):
        raise BadValue(1)
    return tuple(state)


def plain_event(value):
    """Return the event as a tuple, its number perhaps of no rule; None for what is no event."""
    if is_row(value, 1) and value[0] in ("plug", "pull"):
        return tuple(value)
    if is_row(value, 2) and value[0] in ("host", "device") and is_integer(value[1]):
        return tuple(value)
    return None


def ready(protocol, state):
    """Return the events that are ready in a state of the link, ascending."""
    told = plain_protocol(protocol)
    return ready_events(told, plain_link_state(told, state))


def after(protocol, state, event):
    """Return the state of the link behind a ready event."""
    told = plain_protocol(protocol)
    here = plain_link_state(told, state)
    happening = plain_event(event)
    if happening is None or not is_ready(told, here, happening):
        raise BadValue(2)
    return behind(told, here, happening)
