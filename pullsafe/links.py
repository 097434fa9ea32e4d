"""What happens on the link of a protocol.

Here protocols, states and events are plain tuples, already checked.
"""

PLUG = ("plug",)
PULL = ("pull",)

GOT = {"got 0": 0, "got 1": 1, "got 2": 2, "got 3": 3}
SENT = {"send 0": 0, "send 1": 1, "send 2": 2, "send 3": 3}


def start_of(protocol):
    """Return the state of the link from which runs start."""
    host, device = protocol
    return (1, host[1], device[1], -1, -1, 0)


def rules_of(protocol, word):
    """Return the rules of the side that the first word of an event names."""
    host, device = protocol
    if word == "host":
        return host[2]
    return device[2]


def act_of(protocol, event):
    """Return the act of an event; plug and pull do none."""
    if event == PLUG or event == PULL:
        return "none"
    rules = rules_of(protocol, event[0])
    return rules[event[1]][3]


def is_rule_ready(rule, plugged, place, frame):
    """Tell whether a rule is ready at a place of its side, with frame on the wire to it."""
    state, when, _, act = rule
    if state != place:
        return False
    if act in SENT and plugged == 0:
        return False
    return when == "tick" or GOT.get(when) == frame


def is_ready(protocol, state, event):
    """Tell whether an event is ready; a number that no rule has is not."""
    plugged, host_place, device_place, down, up, _ = state
    if event == PLUG:
        return plugged == 0
    if event == PULL:
        return plugged == 1
    word, number = event
    rules = rules_of(protocol, word)
    if number < 0 or number >= len(rules):
        return False
    if word == "host":
        return is_rule_ready(rules[number], plugged, host_place, up)
    return is_rule_ready(rules[number], plugged, device_place, down)


def ready_events(protocol, state):
    """Return the events that are ready, ascending."""
    host, device = protocol
    events = [("device", number) for number in range(len(device[2]))]
    events.extend([("host", number) for number in range(len(host[2]))])
    events.extend([PLUG, PULL])
    return tuple([event for event in events if is_ready(protocol, state, event)])


def wires_behind(rule, there, back):
    """Return the frames on the wire from and to a side behind a rule of it."""
    if rule[1] in GOT:
        back = -1
    return (SENT.get(rule[3], there), back)


def place_behind_pull(side, place):
    """Return the state to which a pull takes a side."""
    for state, when, then, _ in side[2]:
        if state == place and when == "pull":
            return then
    return place


def behind(protocol, state, event):
    """Return the state of the link behind a ready event."""
    plugged, host_place, device_place, down, up, taken = state
    host, device = protocol
    if event == PLUG:
        return (1, host_place, device_place, down, up, taken)
    if event == PULL:
        host_place = place_behind_pull(host, host_place)
        return (0, host_place, place_behind_pull(device, device_place), -1, -1, taken)
    word, number = event
    rule = rules_of(protocol, word)[number]
    if rule[3] == "take":
        taken = 1
    if rule[3] == "tell":
        taken = 0
    if word == "host":
        down, up = wires_behind(rule, down, up)
        return (plugged, rule[2], device_place, down, up, taken)
    up, down = wires_behind(rule, up, down)
    return (plugged, host_place, rule[2], down, up, taken)


def wrong_of(protocol, state, event):
    """Return lost or twice if a ready event loses a letter or tells one twice, otherwise None."""
    act = act_of(protocol, event)
    taken = state[5]
    if act == "take" and taken == 1:
        return "lost"
    if act == "tell" and taken == 0:
        return "twice"
    return None
