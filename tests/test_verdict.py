"""[1], [2], [18], [20] to [23]: verdict and run_holds."""

import copy
import unittest

from pullsafe.errors import BadValue
from pullsafe.proving import grounds, grounds_hold, run_holds, verdict
from tests.model import Link, rank_table, right_states, run_words, step, verdict_by_runs
from tests.samples import (
    LOST, ODD_VALUES, PROVED, PROVED_PULL, SAMPLES, STUCK_AT_ONCE, STUCK_BY_PULL, TWICE, TWICE_BY_PULL, as_lists,
    changed, check_error, check_plain, mixed, near_proved, random_protocols, shown,
)

WORDS = ("lost", "twice", "stuck")

TWICE_RUN = (("host", 0), ("host", 2), ("device", 0), ("device", 1), ("host", 2), ("device", 0))
ROUND = (
    ("host", 0), ("host", 1), ("device", 0), ("device", 1), ("host", 2),
    ("host", 3), ("host", 4), ("device", 3), ("device", 4), ("host", 5),
)


class Verdict(unittest.TestCase):
    def test_the_example(self):
        self.assertEqual(verdict(TWICE), ("twice", TWICE_RUN))

    def test_proved(self):
        self.assertIs(verdict(PROVED), None)
        self.assertIs(verdict(PROVED_PULL), None)

    def test_lost(self):
        self.assertEqual(verdict(LOST), ("lost", (("host", 0), ("host", 0))))

    def test_stuck_where_the_start_is(self):
        self.assertEqual(verdict(STUCK_AT_ONCE), ("stuck", ()))
        waits = (2, 0, ((0, "got 0", 1, "none"), (1, "tick", 0, "take")))
        self.assertEqual(verdict((waits, (1, 0, ((0, "tick", 0, "send 1"),)))), ("stuck", ()))

    def test_stuck_by_a_pull(self):
        run = (("host", 0), ("host", 1), ("pull",))
        self.assertEqual(verdict(STUCK_BY_PULL), ("stuck", run))

    def test_a_device_that_forgets_tells_twice(self):
        word, run = verdict(TWICE_BY_PULL)
        self.assertEqual(word, "twice")
        self.assertIn(("pull",), run)
        self.assertEqual((word, run), verdict_by_runs(TWICE_BY_PULL, 9))

    def test_a_take_that_only_a_pull_allows_is_stuck(self):
        host = (3, 0, ((0, "pull", 1, "none"), (1, "tick", 2, "take")))
        device = (1, 0, ((0, "tick", 0, "none"),))
        self.assertEqual(verdict((host, device)), ("stuck", ()))

    def test_a_take_that_only_a_plug_allows_is_not_stuck(self):
        # Unplugged at the start of a round, the host must send before it takes again.
        host = (3, 0, ((0, "tick", 1, "send 0"), (1, "tick", 2, "take")))
        run = (("host", 0), ("host", 1))
        self.assertEqual(verdict((host, (1, 0, ()))), ("stuck", run))
        self.assertIs(run_holds((host, (1, 0, ())), "stuck", (("pull",),)), False)

    def test_wrong_goes_before_a_shorter_stuck(self):
        # Stuck behind one event, lost behind three.
        host = (3, 0, ((0, "tick", 2, "none"), (0, "tick", 1, "none"), (1, "tick", 1, "take")))
        self.assertEqual(verdict((host, (1, 0, ()))), ("lost", (("host", 1), ("host", 2), ("host", 2))))

    def test_first_of_shortest(self):
        host = (1, 0, ((0, "tick", 0, "none"), (0, "got 0", 0, "take"), (0, "tick", 0, "take")))
        device = (1, 0, ((0, "tick", 0, "tell"), (0, "got 1", 0, "tell")))
        self.assertEqual(verdict((host, device)), ("twice", (("device", 0),)))
        device = (2, 0, ((0, "tick", 1, "none"), (1, "tick", 0, "tell")))
        self.assertEqual(verdict((host, device)), ("twice", (("device", 0), ("device", 1))))
        device = (2, 0, ((1, "tick", 0, "tell"), (0, "tick", 1, "none")))
        self.assertEqual(verdict((host, device)), ("twice", (("device", 1), ("device", 0))))
        device = (1, 0, ())
        self.assertEqual(verdict((host, device)), ("lost", (("host", 2), ("host", 2))))

    def test_first_of_shortest_by_numbers_not_by_texts(self):
        # Rule 2 and rule 10 lead to the same end; "10" would stand before "2".
        rules = [(4, "tick", at % 5, "none") for at in range(5)] + [(3, "tick", at, "none") for at in range(5)]
        rules = rules[:2] + [(0, "tick", 1, "none")] + rules[2:9] + [(0, "tick", 1, "send 0"), (1, "tick", 1, "take")]
        protocol = ((5, 0, tuple(rules)), (1, 0, ()))
        self.assertEqual(verdict(protocol), ("lost", (("host", 2), ("host", 11), ("host", 11))))

    def test_the_same_for_lists_and_by_name(self):
        for protocol in SAMPLES:
            told = verdict(protocol)
            for form in (as_lists(protocol), mixed(protocol), mixed(protocol, 1)):
                before = copy.deepcopy(form)
                self.assertEqual(shown(verdict(protocol=form)), shown(told))
                self.assertEqual(shown(form), shown(before))
            if told is not None:
                check_plain(self, told)

    def test_against_all_runs(self):
        met = {"lost": 0, "twice": 0, "stuck": 0, None: 0, "unknown": 0}
        protocols = random_protocols(4, 700) + random_protocols(5, 60, 5, 12) + near_proved(6, 150)
        for protocol in protocols:
            told = verdict(protocol)
            expected = verdict_by_runs(protocol, 6)
            if expected == "unknown":
                met["unknown"] += 1
            else:
                met[expected and expected[0]] += 1
                self.assertEqual(told, expected, protocol)
            if told is None:
                self.assertIs(grounds_hold(protocol, grounds(protocol)), True)
            else:
                self.assertEqual([told[0]], run_words(protocol, told[1]), protocol)
                self.assertIs(run_holds(protocol, *told), True)
                self.assertIs(grounds(protocol), None)
        for word, least in (("lost", 50), ("twice", 50), ("stuck", 50), (None, 5)):
            self.assertGreater(met[word], least, met)
        self.assertLess(met["unknown"], len(protocols) // 4, met)

    def test_none_just_for_safe_protocols(self):
        for protocol in near_proved(7, 250) + random_protocols(8, 100, 4, 8):
            states, wrong = right_states(protocol)
            if wrong:
                self.assertIn(verdict(protocol)[0], ("lost", "twice"))
            elif len(rank_table(protocol, states)) < len(states):
                self.assertEqual(verdict(protocol)[0], "stuck")
            else:
                self.assertIs(verdict(protocol), None)


class RunHolds(unittest.TestCase):
    def holds(self, protocol, run, words):
        """Check that just these words hold of the run, however it is passed."""
        for word in WORDS:
            for form in (run, as_lists(run), mixed(run), mixed(run, 1)):
                self.assertIs(run_holds(protocol, word, form), word in words, (protocol, word, run))

    def test_the_example(self):
        self.holds(TWICE, TWICE_RUN, ["twice"])
        for at in range(len(TWICE_RUN)):
            self.holds(TWICE, TWICE_RUN[:at], [])
        self.holds(TWICE, TWICE_RUN + (("device", 1),), [])
        self.holds(TWICE, TWICE_RUN + (("pull",),), [])

    def test_a_longer_run_holds_too(self):
        self.holds(TWICE, (("pull",), ("plug",)) + TWICE_RUN, ["twice"])
        self.holds(LOST, (("host", 0), ("pull",), ("host", 0)), ["lost"])

    def test_lost(self):
        self.holds(LOST, (("host", 0), ("host", 0)), ["lost"])
        self.holds(LOST, (("host", 0),), ["stuck"])
        self.holds(LOST, (), [])
        self.holds(LOST, (("host", 0), ("host", 0), ("host", 0)), [])
        self.holds(LOST, (("host", 0), ("host", 0), ("pull",)), [])

    def test_stuck(self):
        self.holds(STUCK_AT_ONCE, (), ["stuck"])
        self.holds(STUCK_AT_ONCE, (("pull",), ("plug",), ("pull",)), ["stuck"])
        self.holds(STUCK_BY_PULL, (("host", 0), ("host", 1)), [])
        self.holds(STUCK_BY_PULL, (("host", 0), ("host", 1), ("pull",)), ["stuck"])
        self.holds(STUCK_BY_PULL, (("host", 0), ("host", 1), ("pull",), ("plug",)), ["stuck"])
        self.holds(STUCK_BY_PULL, (("host", 0), ("pull",)), [])

    def test_stuck_behind_a_wrong_event_is_not_stuck(self):
        host = (2, 0, ((0, "tick", 1, "none"),))
        device = (2, 0, ((0, "tick", 1, "tell"),))
        self.holds((host, device), (("device", 0),), ["twice"])
        self.holds((host, device), (("device", 0), ("host", 0)), [])
        self.holds((host, device), (("host", 0),), ["stuck"])

    def test_a_take_behind_a_wrong_event_does_not_count(self):
        # The only way to the take leads through a tell that is wrong.
        host = (2, 0, ((0, "got 0", 1, "none"), (1, "tick", 0, "take")))
        device = (2, 0, ((0, "tick", 1, "tell"), (1, "tick", 1, "send 0")))
        self.holds((host, device), (), ["stuck"])
        self.assertEqual(verdict((host, device)), ("twice", (("device", 0),)))

    def test_a_take_that_loses_does_not_count(self):
        host = (1, 0, ((0, "tick", 0, "take"),))
        device = (2, 0, ((0, "tick", 1, "tell"),))
        self.holds((host, device), (("host", 0),), [])
        self.holds((host, device), (("host", 0), ("device", 0)), [])
        self.holds((host, device), (("host", 0), ("device", 0), ("host", 0)), ["stuck"])

    def test_a_take_behind_a_pull_does_not_count(self):
        host = (2, 0, ((0, "pull", 1, "none"), (1, "tick", 1, "take")))
        self.holds((host, (1, 0, ())), (), ["stuck"])
        self.holds((host, (1, 0, ())), (("pull",),), [])

    def test_changed_runs(self):
        for run in (ROUND, ROUND[:1] + (("pull",), ("plug",)) + ROUND[1:]):
            runs = [run[:at] + run[at + 1:] for at in range(len(run))]
            runs += [run[:at] + run[at:at + 1] + run[at:] for at in range(len(run))]
            runs += [run[:at] + run[at + 1:at + 2] + run[at:at + 1] + run[at + 2:] for at in range(len(run) - 1)]
            runs += [run + (event,) for event in run + (("plug",), ("pull",))]
            for other in runs:
                self.holds(PROVED, other, [])

    def test_changed_runs_to_each_wrong(self):
        for protocol in (TWICE, LOST, STUCK_BY_PULL, TWICE_BY_PULL):
            run = verdict(protocol)[1]
            runs = [run[:at] + run[at + 1:] for at in range(len(run))]
            runs += [run[:at] + (event,) + run[at:] for at in range(len(run) + 1) for event in run + (("plug",),)]
            runs += [run[:at] + (event,) + run[at + 1:] for at in range(len(run)) for event in run + (("pull",),)]
            for other in runs:
                self.holds(protocol, other, run_words(protocol, other))

    def test_random_runs(self):
        met = {"lost": 0, "twice": 0, "stuck": 0}
        for seed, protocol in enumerate(random_protocols(9, 80, 3, 8)):
            run, state, word = (), Link(protocol).state(), None
            while word is None and len(run) < 9:
                events = Link(protocol, state).events()
                event = events[(seed * 31 + len(run) * 7 + sum(state) + 2) % len(events)]
                state, word = step(protocol, state, event)
                run += (event,)
                words = run_words(protocol, run)
                for name in words:
                    met[name] += 1
                self.holds(protocol, run, words)
        self.assertGreater(min(met.values()), 3, met)

    def test_long_runs(self):
        many = 800
        self.holds(PROVED, ROUND * many, [])
        self.holds(PROVED, ROUND * many + (("host", 1),), [])
        again = (("pull",), ("plug",)) * (4 * many)
        self.holds(TWICE, again + TWICE_RUN, ["twice"])
        self.holds(TWICE, again + TWICE_RUN + again, [])
        self.holds(TWICE, again + (("plug",),) + TWICE_RUN, [])
        self.holds(STUCK_AT_ONCE, again, ["stuck"])
        self.holds(STUCK_AT_ONCE, again + (("host", 0),), [])
        self.holds(STUCK_BY_PULL, (("host", 0), ("host", 1)) + again, ["stuck"])

    def test_words_that_are_none(self):
        for word in ODD_VALUES + ("Lost", "lost ", "none", "stuck\n", ["lost"], ("stuck",), 0, 1):
            for run in ((), TWICE_RUN, None):
                check_error(self, BadValue, 1, run_holds, TWICE, word, run)

    def test_what_is_no_run(self):
        for odd in ODD_VALUES + ("pull", ("pull",), ("host", 0), [("pull",), "plug"], "x" * 20000, list(range(5000))):
            self.holds(TWICE, odd, run_words(TWICE, odd) if odd in ((), []) else [])
            self.holds(STUCK_AT_ONCE, odd, ["stuck"] if odd in ((), []) else [])

    def test_runs_changed_at_one_place(self):
        odd_values = ODD_VALUES + ("pull", "device", "plug", 0, 1, 2)
        for value in changed(TWICE_RUN, odd_values):
            if type(value) is tuple and all(type(event) is tuple for event in value):
                exact = [event for event in value if not any(type(part) is bool for part in event)]
                words = run_words(TWICE, value) if len(exact) == len(value) else []
            else:
                words = []
            for word in WORDS:
                self.assertIs(run_holds(TWICE, word, value), word in words, value)

    def test_true_is_not_one(self):
        # As 1 and 0 they would be runs.
        self.holds(STUCK_BY_PULL, (("host", 0), ("host", True), ("pull",)), [])
        self.holds(LOST, (("host", False), ("host", 0)), [])
        self.holds(LOST, (("host", 0), ("host", False)), [])

    def test_by_name_and_passed_value_stays(self):
        protocol, run = as_lists(TWICE), as_lists(TWICE_RUN)
        before = copy.deepcopy((protocol, run))
        self.assertIs(run_holds(run=run, word="twice", protocol=protocol), True)
        self.assertEqual(shown((protocol, run)), shown(before))


if __name__ == "__main__":
    unittest.main()
