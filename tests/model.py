"""A second account of protocols, by the words of the document and not by the package.

It is slow and plain: runs are tried one after the other, ranks are lowered until nothing changes.
"""


class Link:
    """A state of the link that is changed by events."""

    def __init__(self, protocol, state=None):
        self.sides = {"host": protocol[0], "device": protocol[1]}
        if state is None:
            state = (1, protocol[0][1], protocol[1][1], -1, -1, 0)
        self.plugged = state[0]
        self.place = {"host": state[1], "device": state[2]}
        # The wire of a side is the one that leads to it.
        self.wire = {"host": state[4], "device": state[3]}
        self.held = state[5]

    def state(self):
        place, wire = self.place, self.wire
        return (self.plugged, place["host"], place["device"], wire["device"], wire["host"], self.held)

    def allows(self, side, rule):
        state, when, _, act = rule
        if self.place[side] != state or when == "pull":
            return False
        if when != "tick" and when != "got " + str(self.wire[side]):
            return False
        return self.plugged == 1 or not act.startswith("send")

    def events(self):
        found = [("pull",)] if self.plugged else [("plug",)]
        for side in ("host", "device"):
            for number, rule in enumerate(self.sides[side][2]):
                if self.allows(side, rule):
                    found.append((side, number))
        return sorted(found)

    def happen(self, event):
        """Do an event; return lost or twice if it is wrong."""
        if event == ("plug",):
            self.plugged = 1
            return None
        if event == ("pull",):
            self.plugged = 0
            self.wire = {"host": -1, "device": -1}
            for side in ("host", "device"):
                thens = [r[2] for r in self.sides[side][2] if r[1] == "pull" and r[0] == self.place[side]]
                self.place[side] = (thens + [self.place[side]])[0]
            return None
        side = event[0]
        other = {"host": "device", "device": "host"}[side]
        _, when, then, act = self.sides[side][2][event[1]]
        if when.startswith("got"):
            self.wire[side] = -1
        self.place[side] = then
        if act.startswith("send"):
            self.wire[other] = int(act[-1])
        before = self.held
        if act == "take":
            self.held = 1
            return "lost" if before == 1 else None
        if act == "tell":
            self.held = 0
            return "twice" if before == 0 else None
        return None


def step(protocol, state, event):
    """Return the state behind an event and whether it is lost, twice or None."""
    link = Link(protocol, state)
    word = link.happen(event)
    return link.state(), word


def is_take(protocol, event):
    return event[0] == "host" and protocol[0][2][event[1]][3] == "take"


def rank_table(protocol, states):
    """Return the fewest events without a pull to a take, for each state that has such."""
    ranks = {}
    moved = True
    while moved:
        moved = False
        for state in states:
            for event in Link(protocol, state).events():
                behind, word = step(protocol, state, event)
                if event == ("pull",) or word is not None:
                    continue
                if is_take(protocol, event):
                    rank = 1
                elif behind in ranks:
                    rank = ranks[behind] + 1
                else:
                    continue
                if rank < ranks.get(state, rank + 1):
                    ranks[state] = rank
                    moved = True
    return ranks


def right_states(protocol):
    """Return all states that runs without a wrong come to, and whether any wrong run is met."""
    start = Link(protocol).state()
    found, fresh, wrong = {start}, [start], False
    while fresh:
        state = fresh.pop()
        for event in Link(protocol, state).events():
            behind, word = step(protocol, state, event)
            if word is not None:
                wrong = True
            elif behind not in found:
                found.add(behind)
                fresh.append(behind)
    return found, wrong


def first_run(protocol, is_end, most):
    """Return the first of the shortest runs of at most so many events that is_end accepts.

    All runs of a length are tried in Python's order, with no state passed over, as long as
    there are not too many; is_end gets the last state, the last event and its word.
    """
    runs = [((), Link(protocol).state())]
    if is_end(runs[0][1], None, None):
        return ()
    for _ in range(most):
        longer = []
        for run, state in runs:
            for event in Link(protocol, state).events():
                behind, word = step(protocol, state, event)
                if is_end(behind, event, word):
                    return run + (event,)
                if word is None:
                    longer.append((run + (event,), behind))
        assert sorted(longer) == longer
        if len(longer) > 20000:
            return None
        runs = longer
    return None


def verdict_by_runs(protocol, most):
    """Return the verdict by trying runs, None if safe, or "unknown" if its run is too long."""
    states, wrong = right_states(protocol)
    if wrong:
        run = first_run(protocol, lambda state, event, word: word is not None, most)
        if run is None:
            return "unknown"
        state = Link(protocol).state()
        for event in run:
            state, word = step(protocol, state, event)
        return (word, run)
    ranks = rank_table(protocol, states)
    if all(state in ranks for state in states):
        return None
    run = first_run(protocol, lambda state, event, word: state not in ranks, most)
    return "unknown" if run is None else ("stuck", run)


def run_words(protocol, run):
    """Return the words of lost, twice and stuck that hold of a value that may be a run."""
    state, word = Link(protocol).state(), None
    for event in run:
        if word is not None or event not in Link(protocol, state).events():
            return []
        state, word = step(protocol, state, event)
    if word is not None:
        return [word]
    everything = [
        (plugged, h, d, down, up, held)
        for plugged in (0, 1) for h in range(protocol[0][0]) for d in range(protocol[1][0])
        for down in range(-1, 4) for up in range(-1, 4) for held in (0, 1)
    ]
    return [] if state in rank_table(protocol, everything) else ["stuck"]


def grounds_fault(protocol, pairs):
    """Return the number at which pairs of the right form are no grounds, or None."""
    for at in range(1, len(pairs)):
        if not pairs[at - 1][0] < pairs[at][0]:
            return at
    ranks = dict(pairs)
    for at, (state, rank) in enumerate(pairs):
        near = False
        for event in Link(protocol, state).events():
            behind, word = step(protocol, state, event)
            if word is not None or behind not in ranks:
                return at
            if event != ("pull",) and (is_take(protocol, event) or ranks[behind] < rank):
                near = True
        if not near:
            return at
    return None if Link(protocol).state() in ranks else len(pairs)
