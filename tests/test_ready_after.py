"""[12], [16], [17], [19]: states of the link, events, ready and after."""

import copy
import unittest

from pullsafe.errors import BadValue
from pullsafe.protocols import after, ready
from tests.model import Link, step
from tests.samples import (
    ODD_VALUES, PROVED, PROVED_PULL, SAMPLES, TWICE, all_states, as_lists, check_error, check_plain, mixed,
    near_proved, random_protocols, shown,
)

START = (1, 0, 0, -1, -1, 0)

# Both sides have a rule of each kind for state 0.
KINDS = (
    (2, 0, (
        (0, "tick", 1, "none"), (0, "tick", 1, "send 2"), (0, "tick", 1, "take"),
        (0, "got 0", 1, "none"), (0, "got 1", 1, "send 3"), (0, "got 2", 1, "take"),
        (0, "got 3", 0, "send 0"), (0, "pull", 1, "none"),
    )),
    (2, 0, (
        (0, "tick", 1, "none"), (0, "tick", 1, "send 1"), (0, "tick", 1, "tell"),
        (0, "got 0", 1, "none"), (0, "got 1", 1, "send 2"), (0, "got 2", 1, "tell"),
        (0, "got 3", 0, "send 0"), (1, "pull", 0, "none"),
    )),
)

EVENTS = (
    [("plug",), ("pull",)] + [(side, number) for side in ("host", "device") for number in range(-2, 14)]
)


class Ready(unittest.TestCase):
    def test_start_of_the_example(self):
        self.assertEqual(ready(TWICE, START), (("host", 0), ("pull",)))

    def test_each_kind_at_the_start(self):
        self.assertEqual(ready(KINDS, START), (
            ("device", 0), ("device", 1), ("device", 2), ("host", 0), ("host", 1), ("host", 2), ("pull",),
        ))

    def test_no_send_while_unplugged(self):
        self.assertEqual(ready(KINDS, (0, 0, 0, -1, -1, 0)), (
            ("device", 0), ("device", 2), ("host", 0), ("host", 2), ("plug",),
        ))
        self.assertEqual(ready(KINDS, (0, 0, 0, 3, 1, 0)), (
            ("device", 0), ("device", 2), ("host", 0), ("host", 2), ("plug",),
        ))

    def test_frames_on_the_wires(self):
        for frame in range(4):
            for other in range(-1, 4):
                self.assertIn(("host", 3 + frame), ready(KINDS, (1, 0, 1, other, frame, 0)))
                self.assertIn(("device", 3 + frame), ready(KINDS, (1, 1, 0, frame, other, 0)))
                self.assertEqual(len(ready(KINDS, (1, 0, 1, other, frame, 0))), 5)
                self.assertEqual(len(ready(KINDS, (1, 1, 0, frame, other, 0))), 5)

    def test_got_while_unplugged(self):
        self.assertEqual(ready(KINDS, (0, 0, 0, 2, 0, 1)), (
            ("device", 0), ("device", 2), ("device", 5), ("host", 0), ("host", 2), ("host", 3), ("plug",),
        ))

    def test_other_state_of_a_side(self):
        self.assertEqual(ready(KINDS, (1, 1, 1, 0, 0, 0)), (("pull",),))
        self.assertEqual(ready(KINDS, (0, 1, 1, 0, 0, 0)), (("plug",),))

    def test_numbers_ascend_as_numbers(self):
        rules = tuple((0, "tick", at // 3, ("none", "send 0", "send 1")[at % 3]) for at in range(12))
        self.assertEqual(
            ready(((4, 0, rules), (4, 0, rules)), START),
            tuple((side, at) for side in ("device", "host") for at in range(12)) + (("pull",),),
        )

    def test_a_rule_with_pull_is_no_event(self):
        for state in all_states(KINDS):
            for event in (("host", 7), ("device", 7)):
                self.assertNotIn(event, ready(KINDS, state))
                check_error(self, BadValue, 2, after, KINDS, state, event)

    def test_by_name_and_as_lists(self):
        told = ready(PROVED, START)
        self.assertEqual(ready(state=list(START), protocol=as_lists(PROVED)), told)
        check_plain(self, ready(as_lists(PROVED), list(START)))

    def test_states_that_are_none(self):
        bad = [
            (), START[:5], START + (0,), (2, 0, 0, -1, -1, 0), (-1, 0, 0, -1, -1, 0), (1, 4, 0, -1, -1, 0),
            (1, -1, 0, -1, -1, 0), (1, 0, 4, -1, -1, 0), (1, 0, -1, -1, -1, 0), (1, 0, 0, -2, -1, 0),
            (1, 0, 0, 4, -1, 0), (1, 0, 0, -1, -2, 0), (1, 0, 0, -1, 4, 0), (1, 0, 0, -1, -1, 2),
            (1, 0, 0, -1, -1, -1), (START,), "100000", "start", None, 0, True,
        ]
        for at in range(6):
            for odd in ODD_VALUES + (10, "0", "1"):
                if odd != -1 or at not in (3, 4):
                    bad.append(START[:at] + (odd,) + START[at + 1:])
        for value in bad:
            check_error(self, BadValue, 1, ready, PROVED, value)
            check_error(self, BadValue, 1, after, PROVED, value, ("pull",))
            check_error(self, BadValue, 1, after, PROVED, value, None)
            if isinstance(value, tuple):
                check_error(self, BadValue, 1, ready, PROVED, list(value))

    def test_states_of_this_protocol_only(self):
        for states in range(1, 6):
            for place in range(7):
                for protocol, state in (
                    (((states, 0, ()), (1, 0, ())), (1, place, 0, -1, -1, 0)),
                    (((1, 0, ()), (states, 0, ())), (1, 0, place, -1, -1, 0)),
                ):
                    if place < states:
                        self.assertEqual(ready(protocol, state), (("pull",),))
                        self.assertEqual(after(protocol, state, ("pull",)), (0,) + state[1:])
                    else:
                        check_error(self, BadValue, 1, ready, protocol, state)

    def test_passed_values_stay(self):
        protocol, state, event = as_lists(KINDS), [1, 0, 0, 1, 1, 0], ["host", 4]
        before = copy.deepcopy((protocol, state, event))
        told = ready(protocol, state)
        behind = after(protocol, state, event)
        self.assertEqual(shown((protocol, state, event)), shown(before))
        state[1] = 1
        protocol[0][2].clear()
        self.assertEqual(behind, (1, 1, 0, 3, -1, 0))
        self.assertEqual(len(told), 9)


class After(unittest.TestCase):
    def test_ticks(self):
        self.assertEqual(after(KINDS, START, ("host", 0)), (1, 1, 0, -1, -1, 0))
        self.assertEqual(after(KINDS, START, ("device", 0)), (1, 0, 1, -1, -1, 0))
        self.assertEqual(after(KINDS, (0, 0, 0, 1, 2, 1), ("host", 0)), (0, 1, 0, 1, 2, 1))

    def test_sends(self):
        self.assertEqual(after(KINDS, START, ("host", 1)), (1, 1, 0, 2, -1, 0))
        self.assertEqual(after(KINDS, START, ("device", 1)), (1, 0, 1, -1, 1, 0))

    def test_send_in_the_place_of_another(self):
        for frame in range(4):
            self.assertEqual(after(KINDS, (1, 0, 0, frame, 0, 1), ("host", 1)), (1, 1, 0, 2, 0, 1))
            self.assertEqual(after(KINDS, (1, 0, 0, 0, frame, 1), ("device", 1)), (1, 0, 1, 0, 1, 1))

    def test_got_takes_the_frame_off(self):
        self.assertEqual(after(KINDS, (1, 0, 0, 0, 0, 0), ("host", 3)), (1, 1, 0, 0, -1, 0))
        self.assertEqual(after(KINDS, (1, 0, 0, 0, 0, 0), ("device", 3)), (1, 0, 1, -1, 0, 0))

    def test_got_with_send(self):
        self.assertEqual(after(KINDS, (1, 0, 0, 1, 1, 0), ("host", 4)), (1, 1, 0, 3, -1, 0))
        self.assertEqual(after(KINDS, (1, 0, 0, 1, 1, 0), ("device", 4)), (1, 0, 1, -1, 2, 0))
        self.assertEqual(after(KINDS, (1, 0, 0, -1, 3, 0), ("host", 6)), (1, 0, 0, 0, -1, 0))
        self.assertEqual(after(KINDS, (1, 0, 0, 3, -1, 0), ("device", 6)), (1, 0, 0, -1, 0, 0))

    def test_take_and_tell_also_when_wrong(self):
        for held in (0, 1):
            self.assertEqual(after(KINDS, (1, 0, 0, -1, -1, held), ("host", 2)), (1, 1, 0, -1, -1, 1))
            self.assertEqual(after(KINDS, (1, 0, 0, -1, -1, held), ("device", 2)), (1, 0, 1, -1, -1, 0))
            self.assertEqual(after(KINDS, (0, 0, 0, 2, 2, held), ("host", 5)), (0, 1, 0, 2, -1, 1))
            self.assertEqual(after(KINDS, (0, 0, 0, 2, 2, held), ("device", 5)), (0, 0, 1, -1, 2, 0))

    def test_plug_changes_nothing_else(self):
        self.assertEqual(after(KINDS, (0, 1, 0, 2, 3, 1), ("plug",)), (1, 1, 0, 2, 3, 1))
        check_error(self, BadValue, 2, after, KINDS, (1, 1, 0, 2, 3, 1), ("plug",))

    def test_pull_with_rules_on_both_sides_one_and_none(self):
        self.assertEqual(after(KINDS, (1, 0, 1, 2, 3, 1), ("pull",)), (0, 1, 0, -1, -1, 1))
        self.assertEqual(after(KINDS, (1, 0, 0, 2, 3, 1), ("pull",)), (0, 1, 0, -1, -1, 1))
        self.assertEqual(after(KINDS, (1, 1, 1, 2, 3, 0), ("pull",)), (0, 1, 0, -1, -1, 0))
        self.assertEqual(after(KINDS, (1, 1, 0, 2, 3, 0), ("pull",)), (0, 1, 0, -1, -1, 0))
        self.assertEqual(after(PROVED, (1, 3, 2, 1, 0, 1), ("pull",)), (0, 3, 2, -1, -1, 1))
        check_error(self, BadValue, 2, after, KINDS, (0, 0, 1, 2, 3, 1), ("pull",))

    def test_pull_goes_on_from_each_state_once(self):
        rules = ((0, "pull", 1, "none"), (1, "pull", 2, "none"), (2, "tick", 0, "none"))
        protocol = ((3, 0, rules), (3, 0, rules))
        for place, then in ((0, 1), (1, 2), (2, 2)):
            self.assertEqual(after(protocol, (1, place, place, 0, 0, 0), ("pull",)), (0, then, then, -1, -1, 0))

    def test_events_that_are_none(self):
        bad = [
            (), ("plug", 0), ("pull", 0), ("pull", ()), ("host",), ("device",), ("host", 0, 0), ("host", True),
            ("host", False), ("device", False), ("host", "0"), ("host", None), ("host", -1), ("host", -8),
            ("device", -1), ("host", 8), ("device", 8), ("host", 10 ** 30), ("hub", 0), (0, "host"), "pull",
            "plug", "host", "host 0", ("Pull",), (("pull",),), ("host", (0,)), ("host", [0]), (["pull"],),
            ([], 0), (True, 0), None, 0, 1, True, [[]],
        ]
        for state in (START, (0, 0, 0, 2, 2, 0), (0, 0, 0, 0, 0, 1)):
            for value in bad:
                check_error(self, BadValue, 2, after, KINDS, state, value)
                if isinstance(value, tuple):
                    check_error(self, BadValue, 2, after, KINDS, list(state), list(value))

    def test_events_that_are_not_ready(self):
        check_error(self, BadValue, 2, after, TWICE, START, ("host", 1))
        check_error(self, BadValue, 2, after, TWICE, START, ("device", 0))
        check_error(self, BadValue, 2, after, TWICE, START, ("plug",))
        check_error(self, BadValue, 2, after, TWICE, (0, 1, 1, -1, -1, 1), ("host", 2))
        check_error(self, BadValue, 2, after, TWICE, (0, 1, 1, -1, -1, 1), ("pull",))

    def test_the_state_is_asked_before_the_event(self):
        check_error(self, BadValue, 1, after, TWICE, (1, 0, 0, -1, -1), ("host",))
        check_error(self, BadValue, 1, after, TWICE, (1, 2, 0, -1, -1, 0), ("host", 0))

    def test_by_name_and_as_lists(self):
        told = after(event=["host", 0], state=list(START), protocol=mixed(TWICE))
        self.assertEqual(shown(told), shown((1, 1, 0, -1, -1, 1)))


class EveryState(unittest.TestCase):
    """All states of the link, with all events, against the second account."""

    def check(self, protocol, states):
        for state in states:
            expected = tuple(Link(protocol, state).events())
            told = ready(protocol, state)
            self.assertEqual(told, expected, (protocol, state))
            self.assertEqual(told, tuple(sorted(told)))
            for event in EVENTS:
                if event in expected:
                    self.assertEqual(after(protocol, state, event), step(protocol, state, event)[0])
                else:
                    check_error(self, BadValue, 2, after, protocol, state, event)

    def test_samples(self):
        for protocol in SAMPLES + (KINDS,):
            self.check(protocol, all_states(protocol)[::7])
        self.check(KINDS, all_states(KINDS))
        check_plain(self, after(as_lists(PROVED_PULL), list(START), ["pull"]))

    def test_random_protocols(self):
        for protocol in random_protocols(2, 25, 5, 12) + near_proved(3, 10):
            self.check(protocol, all_states(protocol)[::13])


if __name__ == "__main__":
    unittest.main()
