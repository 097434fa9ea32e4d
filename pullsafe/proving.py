"""Proving: whether all runs of a protocol are safe, with a run or grounds to show for it."""

from pullsafe.errors import BadGrounds, BadValue
from pullsafe.kinds import is_integer_from, is_row, is_sequence
from pullsafe.links import PULL, act_of, behind, is_ready, ready_events, start_of, wrong_of
from pullsafe.protocols import is_link_state, plain_event, plain_protocol

WORDS = ("lost", "twice", "stuck")
MOST_RANK = 1000000


def run_to(origins, state):
    """Return the run to a state by which it was found."""
    events = []
    origin = origins[state]
    while origin is not None:
        state, event = origin
        events.append(event)
        origin = origins[state]
    return tuple(events[::-1])


def explored(protocol):
    """Return the states that runs come to, with their origins, and the first wrong, if any.

    The states are found in the order of their first shortest runs, as each is left by its
    events in ascending order; so the first wrong met ends the first of the shortest wrong runs.
    """
    start = start_of(protocol)
    origins = {start: None}
    queue = [start]
    at = 0
    while at < len(queue):
        state = queue[at]
        at += 1
        for event in ready_events(protocol, state):
            word = wrong_of(protocol, state, event)
            if word is not None:
                return (origins, (word, run_to(origins, state) + (event,)))
            found = behind(protocol, state, event)
            if found not in origins:
                origins[found] = (state, event)
                queue.append(found)
    return (origins, None)


def quiet_events(protocol, state):
    """Return the ready events that are no pull and neither lose a letter nor tell one twice."""
    events = [event for event in ready_events(protocol, state) if event != PULL]
    return [event for event in events if wrong_of(protocol, state, event) is None]


def ranks_of(protocol, states):
    """Return the fewest events without a pull up to and with a take, for states that have such.

    No event that is ready in one of the states leads to another than these, or is wrong.
    """
    ranks = {}
    sources = {state: [] for state in states}
    for state in states:
        for event in quiet_events(protocol, state):
            if act_of(protocol, event) == "take":
                ranks[state] = 1
            sources[behind(protocol, state, event)].append(state)
    queue = list(ranks)
    at = 0
    while at < len(queue):
        state = queue[at]
        at += 1
        for source in sources[state]:
            if source not in ranks:
                ranks[source] = ranks[state] + 1
                queue.append(source)
    return ranks


def comes_to_take(protocol, start):
    """Tell whether quiet events lead from a state to a take."""
    seen = {start: True}
    queue = [start]
    at = 0
    while at < len(queue):
        state = queue[at]
        at += 1
        for event in quiet_events(protocol, state):
            if act_of(protocol, event) == "take":
                return True
            found = behind(protocol, state, event)
            if found not in seen:
                seen[found] = True
                queue.append(found)
    return False


def verdict(protocol):
    """Return None if all runs are safe, otherwise the first shortest wrong run with its word."""
    told = plain_protocol(protocol)
    origins, wrong = explored(told)
    if wrong is not None:
        return wrong
    ranks = ranks_of(told, list(origins))
    for state in origins:
        if state not in ranks:
            return ("stuck", run_to(origins, state))
    return None


def run_holds(protocol, word, run):
    """Tell whether run is a run that is lost, twice or stuck, as word says."""
    told = plain_protocol(protocol)
    if word not in WORDS:
        raise BadValue(1)
    if not is_sequence(run):
        return False
    state = start_of(told)
    wrong = None
    for value in run:
        event = plain_event(value)
        if wrong is not None or event is None or not is_ready(told, state, event):
            return False
        wrong = wrong_of(told, state, event)
        state = behind(told, state, event)
    if word == "stuck":
        return wrong is None and not comes_to_take(told, state)
    return wrong == word


def grounds(protocol):
    """Return the least grounds, or None if not all runs are safe."""
    told = plain_protocol(protocol)
    origins, wrong = explored(told)
    if wrong is not None:
        return None
    ranks = ranks_of(told, list(origins))
    if len(ranks) < len(origins):
        return None
    return tuple(sorted(ranks.items()))


def is_ground(protocol, value):
    """Tell whether value is a pair of a state of the link and a rank."""
    if not is_row(value, 2):
        return False
    return is_link_state(protocol, value[0]) and is_integer_from(value[1], 1, MOST_RANK)


def is_kept(protocol, ranks, state):
    """Tell whether every ready event is right and leads to a state with a rank."""
    for event in ready_events(protocol, state):
        if wrong_of(protocol, state, event) is not None:
            return False
        if behind(protocol, state, event) not in ranks:
            return False
    return True


def is_near_take(protocol, ranks, state):
    """Tell whether some event that is no pull takes or leads to a lesser rank.

    All ready events of the state lead to states with a rank.
    """
    for event in quiet_events(protocol, state):
        if act_of(protocol, event) == "take":
            return True
        if ranks[behind(protocol, state, event)] < ranks[state]:
            return True
    return False


def told_ranks(protocol, value):
    """Return the ranks of told grounds by their states, or raise BadGrounds for their form."""
    ranks = {}
    last = None
    for at, pair in enumerate(value):
        if not is_ground(protocol, pair):
            raise BadGrounds(at)
        state = tuple(pair[0])
        if last is not None and state <= last:
            raise BadGrounds(at)
        ranks[state] = pair[1]
        last = state
    return ranks


def grounds_hold(protocol, value):
    """Return True if value is grounds of the protocol, otherwise raise BadGrounds."""
    told = plain_protocol(protocol)
    if not is_sequence(value):
        raise BadGrounds(0)
    ranks = told_ranks(told, value)
    for at, state in enumerate(list(ranks)):
        if not is_kept(told, ranks, state) or not is_near_take(told, ranks, state):
            raise BadGrounds(at)
    if start_of(told) not in ranks:
        raise BadGrounds(len(ranks))
    return True
