"""[3], [24], [25]: grounds and grounds_hold."""

import copy
import unittest

from pullsafe.errors import BadGrounds
from pullsafe.protocols import after, ready
from pullsafe.proving import grounds, grounds_hold, verdict
from tests.model import Link, grounds_fault, rank_table, right_states
from tests.samples import (
    LOST, ODD_VALUES, PROVED, PROVED_PULL, SAMPLES, STUCK_AT_ONCE, STUCK_BY_PULL, TWICE, TWICE_BY_PULL, all_states,
    as_lists, changed, check_error, check_plain, mixed, near_proved, random_protocols, raised, shown,
)

START = (1, 0, 0, -1, -1, 0)
TOLD = grounds(PROVED)


def safe_protocols():
    """Return protocols whose verdict is None."""
    protocols = (PROVED, PROVED_PULL) + tuple(near_proved(10, 120)) + tuple(random_protocols(11, 150))
    return [protocol for protocol in protocols if verdict(protocol) is None]


class Grounds(unittest.TestCase):
    def test_none_where_the_verdict_is_not(self):
        for protocol in (TWICE, LOST, STUCK_AT_ONCE, STUCK_BY_PULL, TWICE_BY_PULL):
            self.assertIs(grounds(protocol), None)
        for protocol in random_protocols(12, 200) + near_proved(13, 60):
            self.assertEqual(grounds(protocol) is None, verdict(protocol) is not None)

    def test_states_are_those_that_runs_come_to(self):
        for protocol in safe_protocols():
            told = grounds(protocol)
            states, wrong = right_states(protocol)
            self.assertFalse(wrong)
            self.assertEqual([state for state, rank in told], sorted(states))

    def test_ranks_are_the_fewest_events(self):
        for protocol in safe_protocols():
            self.assertEqual(dict(grounds(protocol)), rank_table(protocol, right_states(protocol)[0]))

    def test_ranks_of_one_protocol(self):
        told = dict(TOLD)
        self.assertEqual(told[START], 1)
        self.assertEqual(told[(0, 0, 0, -1, -1, 0)], 1)
        # send 0, tell, send 0, got 0, take
        self.assertEqual(told[(1, 1, 0, -1, -1, 1)], 5)
        self.assertEqual(told[(0, 1, 0, -1, -1, 1)], 6)
        self.assertEqual(told[(1, 1, 2, -1, 0, 0)], 2)

    def test_enough_safe_protocols(self):
        self.assertGreater(len(safe_protocols()), 12)

    def test_plain_by_name_and_the_same_for_lists(self):
        check_plain(self, grounds(protocol=as_lists(PROVED)))
        for form in (as_lists(PROVED_PULL), mixed(PROVED_PULL)):
            before = copy.deepcopy(form)
            self.assertEqual(shown(grounds(form)), shown(grounds(PROVED_PULL)))
            self.assertEqual(shown(form), shown(before))

    def test_no_lesser_ranks_hold(self):
        for protocol in safe_protocols()[:12]:
            told = grounds(protocol)
            for at, (state, rank) in enumerate(told):
                if rank > 1:
                    self.assertIsInstance(
                        raised(grounds_hold, protocol, told[:at] + ((state, rank - 1),) + told[at + 1:]), BadGrounds
                    )


class GroundsHold(unittest.TestCase):
    def check(self, protocol, pairs, change=as_lists):
        """Check pairs of the right form against the second account, also changed in its lists."""
        at = grounds_fault(protocol, pairs)
        for form in (tuple(pairs), change(pairs)):
            before = copy.deepcopy(form)
            if at is None:
                self.assertIs(grounds_hold(protocol, form), True)
                self.assertIs(verdict(protocol), None)
            else:
                check_error(self, BadGrounds, at, grounds_hold, protocol, form)
            self.assertEqual(shown(form), shown(before))
        return at

    def test_the_least_grounds_hold(self):
        for protocol in safe_protocols():
            for change in (as_lists, mixed, lambda pairs: mixed(pairs, 1)):
                self.assertIs(self.check(protocol, grounds(protocol), change), None)

    def test_by_name(self):
        self.assertIs(grounds_hold(value=TOLD, protocol=PROVED), True)

    def test_pairs_left_out(self):
        for at in range(len(TOLD)):
            self.check(PROVED, TOLD[:at] + TOLD[at + 1:])
            self.check(PROVED, TOLD[:at])
            self.check(PROVED, TOLD[at:])

    def test_pairs_again_and_exchanged(self):
        for at in range(len(TOLD)):
            again = TOLD[:at + 1] + TOLD[at:]
            check_error(self, BadGrounds, at + 1, grounds_hold, PROVED, again)
            raised_again = TOLD[:at + 1] + ((TOLD[at][0], TOLD[at][1] + 1),) + TOLD[at + 1:]
            check_error(self, BadGrounds, at + 1, grounds_hold, PROVED, raised_again)
            if at > 0:
                turned = TOLD[:at - 1] + (TOLD[at], TOLD[at - 1]) + TOLD[at + 1:]
                check_error(self, BadGrounds, at, grounds_hold, PROVED, turned)
        check_error(self, BadGrounds, 1, grounds_hold, PROVED, TOLD[::-1])
        check_error(self, BadGrounds, len(TOLD), grounds_hold, PROVED, TOLD + TOLD)

    def test_ranks_raised_and_lowered(self):
        for protocol in (PROVED, PROVED_PULL):
            told = grounds(protocol)
            held = 0
            for at, (state, rank) in enumerate(told):
                for other in (rank - 1, rank + 1, rank + 3, 10 ** 6):
                    if other > 0:
                        fault = self.check(protocol, told[:at] + ((state, other),) + told[at + 1:])
                        held += fault is None
            self.assertGreater(held, len(told))

    def test_all_ranks_raised(self):
        self.assertIs(self.check(PROVED, tuple((state, rank + 999) for state, rank in TOLD)), None)
        self.assertIs(self.check(PROVED, tuple((state, rank * 7) for state, rank in TOLD)), None)
        self.check(PROVED, tuple((state, 1) for state, rank in TOLD))
        self.check(PROVED, tuple((state, 5) for state, rank in TOLD))
        high = 10 ** 6 - max(rank for state, rank in TOLD)
        self.assertIs(self.check(PROVED, tuple((state, rank + high) for state, rank in TOLD)), None)

    def test_ranks_that_are_none(self):
        for at in (0, 1, len(TOLD) - 1):
            state, rank = TOLD[at]
            for odd in (0, -1, 10 ** 6 + 1, 10 ** 30, True, False, None, "1", (1,), [1]):
                check_error(self, BadGrounds, at, grounds_hold, PROVED, TOLD[:at] + ((state, odd),) + TOLD[at + 1:])

    def test_states_that_are_none(self):
        for at in (0, 1, len(TOLD) - 1):
            state, rank = TOLD[at]
            bad = [state[:5], state + (0,), (2,) + state[1:], (state[0], 4) + state[2:], state[:3] + (4,) + state[4:]]
            bad += [(bool(state[0]),) + state[1:], state[:5] + (bool(state[5]),), None, "state", 0, (), (state,)]
            for odd in bad:
                check_error(self, BadGrounds, at, grounds_hold, PROVED, TOLD[:at] + ((odd, rank),) + TOLD[at + 1:])
        check_error(self, BadGrounds, 1, grounds_hold, STUCK_AT_ONCE, TOLD)

    def test_pairs_that_are_none(self):
        for at in (0, 1, len(TOLD) // 2, len(TOLD) - 1):
            state, rank = TOLD[at]
            for odd in ODD_VALUES + ((state,), (rank, state), (state, rank, rank), state, "ab"):
                check_error(self, BadGrounds, at, grounds_hold, PROVED, TOLD[:at] + (odd,) + TOLD[at + 1:])
            check_error(self, BadGrounds, len(TOLD), grounds_hold, PROVED, TOLD + (None,))

    def test_what_is_no_sequence(self):
        for odd in ("", "grounds", "x" * 20000, None, True, False, 0, 1, -1, 10 ** 30):
            check_error(self, BadGrounds, 0, grounds_hold, PROVED, odd)

    def test_only_the_start_lacks(self):
        for protocol in (PROVED, STUCK_AT_ONCE, LOST):
            check_error(self, BadGrounds, 0, grounds_hold, protocol, ())
            check_error(self, BadGrounds, 0, grounds_hold, protocol, [])
        # No event leads back to the start of this one, unplugged or not.
        protocol = ((5, 4, PROVED[0][2] + ((4, "tick", 0, "none"),)), PROVED[1])
        told = grounds(protocol)
        self.assertIs(self.check(protocol, told), None)
        starts = [pair for pair in told if pair[0][1] == 4]
        rest = tuple(pair for pair in told if pair[0][1] != 4)
        self.assertEqual(len(starts), 2)
        self.assertEqual(self.check(protocol, rest), len(rest))
        self.assertEqual(self.check(protocol, rest[1:]), grounds_fault(protocol, rest[1:]))

    def test_form_goes_before_all_else(self):
        # The pairs at 0 and behind lead out of the told states, but the last is of no form.
        few = TOLD[3:9]
        self.assertLess(grounds_fault(PROVED, few), len(few))
        check_error(self, BadGrounds, len(few), grounds_hold, PROVED, few + ((START, 0),))
        check_error(self, BadGrounds, len(few), grounds_hold, PROVED, few + few[:1])
        check_error(self, BadGrounds, 2, grounds_hold, PROVED, (few[0], few[1], few[1], None))
        check_error(self, BadGrounds, 1, grounds_hold, PROVED, (few[0], None, few[0]))

    def test_states_that_no_run_comes_to(self):
        reached = dict(TOLD)
        met = {True: 0, False: 0}
        for state in all_states(PROVED)[::5]:
            if state not in reached:
                for rank in (1, 9):
                    pairs = tuple(sorted(list(TOLD) + [(state, rank)]))
                    met[self.check(PROVED, pairs) is None] += 1
        self.assertGreater(min(met.values()), 9, met)

    def test_all_states_that_are_safe_are_grounds(self):
        # The most states that lead to no wrong and can come to a take are grounds, too.
        for protocol in (PROVED, PROVED_PULL):
            states = set(all_states(protocol))
            while True:
                right = {state for state in states if all(
                    after(protocol, state, event) in states for event in ready(protocol, state)
                )}
                right = {state for state in right if not any(
                    Link(protocol, state).happen(event) for event in ready(protocol, state)
                )}
                ranks = rank_table(protocol, right)
                if len(ranks) == len(states):
                    break
                states = set(ranks)
            pairs = tuple(sorted(ranks.items()))
            self.assertGreater(len(pairs), len(grounds(protocol)))
            self.assertIs(self.check(protocol, pairs), None)

    def test_states_changed(self):
        for at in range(0, len(TOLD), 5):
            state, rank = TOLD[at]
            for place in range(6):
                for part in range(-1, 4):
                    other = state[:place] + (part,) + state[place + 1:]
                    if other in all_states(PROVED):
                        self.check(PROVED, TOLD[:at] + ((other, rank),) + TOLD[at + 1:])

    def test_changed_at_one_place(self):
        few = TOLD[:2]
        for value in changed(few):
            error = raised(grounds_hold, PROVED, value)
            self.assertIs(type(error), BadGrounds, value)
            self.assertIs(type(error.at), int)

    def test_no_grounds_hold_where_the_verdict_is_not_none(self):
        for protocol in SAMPLES + tuple(random_protocols(14, 60)):
            if verdict(protocol) is not None:
                states, _ = right_states(protocol)
                ranks = rank_table(protocol, states)
                self.assertIsNot(self.check(protocol, tuple(sorted(ranks.items()))), None)
                every = tuple((state, ranks.get(state, 50)) for state in sorted(states))
                self.assertIsNot(self.check(protocol, every), None)

    def test_a_take_that_loses_is_no_ground(self):
        pairs = tuple((state, 1) for state in all_states(LOST))
        at = [pair[0] for pair in pairs].index((0, 0, 0, -1, -1, 1))
        self.assertEqual(self.check(LOST, pairs), at)

    def test_a_pull_is_no_way_to_a_take(self):
        host = (2, 0, ((0, "pull", 1, "none"), (1, "tick", 0, "take")))
        protocol = (host, (1, 0, ()))
        for ranks in ((1, 2), (2, 1), (1, 1), (2, 3)):
            pairs = tuple((state, ranks[state[1]]) for state in all_states(protocol) if state[5] == 0)
            self.check(protocol, pairs)


if __name__ == "__main__":
    unittest.main()
