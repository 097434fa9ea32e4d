"""Protocols and helpers that several tests use."""

import random

from pullsafe.errors import BadGrounds, BadText, BadValue, NoDriver, NoName, NoPort, NotNow, PullError, TooMany

ALL_ERRORS = (BadValue, BadText, BadGrounds, NoPort, NoName, NoDriver, NotNow, TooMany)

# The example of section 1 of the document: a letter is told again when a frame comes again.
TWICE = (
    (2, 0, ((0, "tick", 1, "take"), (1, "got 0", 0, "none"), (1, "tick", 1, "send 0"))),
    (2, 0, ((0, "got 0", 1, "tell"), (1, "tick", 0, "send 0"))),
)

# The host takes again without waiting.
LOST = ((1, 0, ((0, "tick", 0, "take"),)), (1, 0, ()))

# Nobody ever takes.
STUCK_AT_ONCE = ((1, 0, ()), (1, 0, ()))

# The host sends just once, so a pull that takes the frame ends all.
STUCK_BY_PULL = (
    (3, 0, ((0, "tick", 1, "take"), (1, "tick", 2, "send 0"), (2, "got 1", 0, "none"))),
    (2, 0, ((0, "got 0", 1, "tell"), (1, "tick", 0, "send 1"))),
)

# Frames with alternating numbers, sent until the right answer comes.
PROVED = (
    (4, 0, (
        (0, "tick", 1, "take"), (1, "tick", 1, "send 0"), (1, "got 0", 2, "none"),
        (2, "tick", 3, "take"), (3, "tick", 3, "send 1"), (3, "got 1", 0, "none"),
    )),
    (4, 0, (
        (0, "got 0", 1, "tell"), (1, "tick", 2, "send 0"), (2, "got 0", 1, "none"),
        (2, "got 1", 3, "tell"), (3, "tick", 0, "send 1"), (0, "got 1", 3, "none"),
    )),
)

# As PROVED, but the host has rules with `pull` that lead back to states where it sends.
PROVED_PULL = (
    (4, 0, PROVED[0][2] + ((1, "pull", 1, "none"), (3, "pull", 3, "none"))),
    (4, 0, PROVED[1][2] + ((2, "pull", 2, "none"),)),
)

# As PROVED, but the device forgets at a pull what it told.
TWICE_BY_PULL = (
    PROVED[0],
    (4, 0, PROVED[1][2] + tuple((state, "pull", 0, "none") for state in (1, 2, 3))),
)

SAMPLES = (TWICE, LOST, STUCK_AT_ONCE, STUCK_BY_PULL, PROVED, PROVED_PULL, TWICE_BY_PULL)

# What may stand in the place of any value.
ODD_VALUES = (True, False, None, "", "tick", "host", -1, 6, 7, 10 ** 30, -10 ** 30, (), [], (0,), [[]], ((),), [None])


def as_lists(value):
    """Return the value with a list in the place of each tuple."""
    if isinstance(value, (list, tuple)):
        return [as_lists(part) for part in value]
    return value


def as_tuples(value):
    """Return the value with a tuple in the place of each list."""
    if isinstance(value, (list, tuple)):
        return tuple(as_tuples(part) for part in value)
    return value


def mixed(value, turn=0):
    """Return the value with lists and tuples by turns."""
    if isinstance(value, (list, tuple)):
        parts = [mixed(part, turn + at + 1) for at, part in enumerate(value)]
        return parts if turn % 2 else tuple(parts)
    return value


def shown(value):
    """Return a text that tells lists from tuples and True from 1."""
    return repr(value)


def changed(value, odd_values=ODD_VALUES):
    """Yield the value with one part at any depth replaced by each odd value."""
    for odd in odd_values:
        yield odd
    if isinstance(value, (list, tuple)):
        kind = type(value)
        for at, part in enumerate(value):
            yield kind(list(value[:at]) + list(value[at + 1:]))
            yield kind(list(value[:at]) + [part] + list(value[at:]))
            for other in changed(part, odd_values):
                yield kind(list(value[:at]) + [other] + list(value[at + 1:]))


def all_states(protocol):
    """Return all states of the link, ascending, those that no run comes to among them."""
    host, device = protocol
    return [
        (plugged, h, d, down, up, held)
        for plugged in (0, 1)
        for h in range(host[0])
        for d in range(device[0])
        for down in range(-1, 4)
        for up in range(-1, 4)
        for held in (0, 1)
    ]


def random_side(dice, acts, most_states, most_rules):
    """Return a random side whose rules have the acts."""
    states = dice.randint(1, most_states)
    rules = []
    for _ in range(dice.randint(0, most_rules)):
        when = dice.choice(("tick", "tick", "got 0", "got 0", "got 1", "got 2", "got 3", "pull"))
        act = "none" if when == "pull" else dice.choice(acts)
        rule = (dice.randrange(states), when, dice.randrange(states), act)
        pulled = [other[0] for other in rules if other[1] == "pull"]
        if rule not in rules and not (when == "pull" and rule[0] in pulled):
            rules.append(rule)
    return (states, dice.randrange(states), tuple(rules))


def random_protocol(dice, most_states=3, most_rules=6):
    """Return a random protocol, with acts that matter oftener than others."""
    host_acts = ("none", "send 0", "send 0", "send 1", "send 3", "take", "take")
    device_acts = ("none", "send 0", "send 0", "send 1", "send 2", "tell", "tell")
    host = random_side(dice, host_acts, most_states, most_rules)
    return (host, random_side(dice, device_acts, most_states, most_rules))


def random_protocols(seed, many, most_states=3, most_rules=6):
    """Return as many random protocols, the same for the same seed."""
    dice = random.Random(seed)
    return [random_protocol(dice, most_states, most_rules) for _ in range(many)]


def near_proved(seed, many):
    """Return protocols like PROVED, with a rule or two left out, changed or added."""
    dice = random.Random(seed)
    found = []
    while len(found) < many:
        sides = []
        for at, side in enumerate(PROVED):
            rules = list(side[2])
            for _ in range(dice.randint(0, 2)):
                extra = random_side(dice, ("none", "send 0", "send 1", ("take", "tell")[at]), 4, 3)[2]
                rules = [rule for rule in rules if dice.randrange(12) > 0]
                rules.extend([rule for rule in extra if rule not in rules and rule[1] != "pull"])
            if dice.randrange(2):
                rules.append((dice.randrange(4), "pull", dice.randrange(4), "none"))
            sides.append((4, 0, tuple(rules[:12])))
        found.append(tuple(sides))
    return found


def raised(function, *parts, **named):
    """Return the error that a call raises, or None."""
    try:
        function(*parts, **named)
    except PullError as error:
        return error
    return None


def check_error(case, kind, at, function, *parts, **named):
    """Check that a call raises just this error with just this position."""
    error = raised(function, *parts, **named)
    case.assertIs(type(error), kind, parts)
    case.assertIs(type(error.at), int)
    case.assertEqual(error.at, at, parts)


def check_plain(case, value):
    """Check that a returned value consists of plain tuples, integers and strings."""
    case.assertIn(type(value), (tuple, int, str))
    if type(value) is tuple:
        for part in value:
            check_plain(case, part)
