"""[12], [14], [15]: which values are protocols."""

import copy
import unittest

from pullsafe.protocols import after, is_protocol, ready
from pullsafe.proving import grounds, grounds_hold, run_holds, verdict
from pullsafe.errors import BadValue
from tests.samples import (
    ODD_VALUES, PROVED, PROVED_PULL, SAMPLES, TWICE, as_lists, as_tuples, changed, check_error, mixed,
    random_protocols, shown,
)

EMPTY = (1, 0, ())
WHENS = ("tick", "pull", "got 0", "got 1", "got 2", "got 3")
ACTS = ("none", "send 0", "send 1", "send 2", "send 3", "take", "tell")


def ticks(many):
    """Return as many different rules over five states."""
    return tuple((at // 5, "tick", at % 5, "none") for at in range(many))


def host_with(*rules):
    return ((2, 0, rules), EMPTY)


def device_with(*rules):
    return (EMPTY, (2, 0, rules))


class Forms(unittest.TestCase):
    def yes(self, value):
        for form in (as_tuples(value), as_lists(value), mixed(value), mixed(value, 1)):
            self.assertIs(is_protocol(form), True, form)

    def no(self, value):
        before = copy.deepcopy(value)
        self.assertIs(is_protocol(value), False, value)
        self.assertIs(is_protocol(as_lists(value)), False, value)
        self.assertIs(is_protocol(as_tuples(value)), False, value)
        self.assertEqual(shown(value), shown(before))

    def test_samples(self):
        for protocol in SAMPLES:
            self.yes(protocol)

    def test_random_protocols(self):
        for protocol in random_protocols(1, 300, 5, 12):
            self.yes(protocol)

    def test_by_name(self):
        self.assertIs(is_protocol(value=TWICE), True)
        self.assertIs(is_protocol(value=None), False)

    def test_passed_value_stays(self):
        value = as_lists(PROVED_PULL)
        before = copy.deepcopy(value)
        is_protocol(value)
        self.assertEqual(shown(value), shown(before))

    def test_states_from_one_to_five(self):
        for at in (0, 1):
            for states in (-1, 0, 1, 2, 5, 6, 10 ** 30):
                sides = [EMPTY, EMPTY]
                sides[at] = (states, 0, ())
                if 1 <= states <= 5:
                    self.yes(tuple(sides))
                else:
                    self.no(tuple(sides))

    def test_start_is_a_state(self):
        for states in range(1, 6):
            for start in range(-2, 8):
                told = self.yes if 0 <= start < states else self.no
                told(((states, start, ()), EMPTY))
                told((EMPTY, (states, start, ())))

    def test_twelve_rules_at_most(self):
        for many in range(16):
            told = self.yes if many <= 12 else self.no
            told(((5, 0, ticks(many)), EMPTY))
            told((EMPTY, (5, 0, ticks(many))))

    def test_rules_of_states_only(self):
        for states in range(1, 6):
            for place in range(-1, 7):
                told = self.yes if 0 <= place < states else self.no
                told(((states, 0, ((place, "tick", 0, "none"),)), EMPTY))
                told(((states, 0, ((0, "tick", place, "none"),)), EMPTY))
                told((EMPTY, (states, 0, ((place, "got 1", 0, "none"),))))
                told((EMPTY, (states, 0, ((0, "got 1", place, "none"),))))

    def test_each_when_with_each_act(self):
        for when in WHENS:
            for act in ACTS:
                rule = (0, when, 1, act)
                fits = when != "pull" or act == "none"
                (self.yes if fits and act != "tell" else self.no)(host_with(rule))
                (self.yes if fits and act != "take" else self.no)(device_with(rule))

    def test_barred_act_behind_others(self):
        self.no(host_with((0, "tick", 0, "take"), (1, "tick", 0, "tell")))
        self.no(device_with((0, "tick", 0, "tell"), (1, "tick", 0, "take")))

    def test_words_that_are_none(self):
        for word in ("", "Tick", "tick ", "got", "got 4", "got -1", "got 00", "got  0", "take", "plug", "send 0", "host"):
            self.no(host_with((0, word, 1, "none")))
            self.no(device_with((0, word, 1, "none")))
        for word in ("", "None", "none ", "send", "send 4", "send -1", "send 01", "send  0", "tick", "pull", "got 0"):
            self.no(host_with((0, "tick", 1, word)))
            self.no(device_with((0, "tick", 1, word)))

    def test_same_rule_twice(self):
        one, other = (0, "tick", 1, "none"), (1, "tick", 0, "none")
        for with_rules in (host_with, device_with):
            self.yes(with_rules(one, other))
            self.no(with_rules(one, one))
            self.no(with_rules(one, other, one))
            self.no(with_rules(other, one, one))
            self.no(with_rules(one, list(one)))

    def test_rules_that_differ_in_one_part(self):
        rules = [(0, "tick", 1, "none"), (1, "tick", 1, "none"), (0, "got 0", 1, "none"), (0, "tick", 0, "none")]
        self.yes(host_with(*rules, (0, "tick", 1, "take")))
        self.yes(device_with(*rules, (0, "tick", 1, "tell")))

    def test_pull_once_for_each_state(self):
        for with_rules in (host_with, device_with):
            self.yes(with_rules((0, "pull", 0, "none"), (1, "pull", 0, "none")))
            self.no(with_rules((0, "pull", 0, "none"), (0, "pull", 1, "none")))
            self.no(with_rules((1, "pull", 0, "none"), (0, "pull", 1, "none"), (1, "pull", 1, "none")))
            self.yes(with_rules((0, "pull", 0, "none"), (0, "tick", 0, "none"), (0, "tick", 1, "none")))
        self.yes(((1, 0, ((0, "pull", 0, "none"),)), (1, 0, ((0, "pull", 0, "none"),))))

    def test_true_and_false_are_no_integers(self):
        self.no(((True, 0, ()), EMPTY))
        self.no(((1, False, ()), EMPTY))
        self.no(((2, True, ()), EMPTY))
        self.no((EMPTY, (True, 0, ())))
        self.no((EMPTY, (1, False, ())))
        for with_rules in (host_with, device_with):
            self.no(with_rules((False, "tick", 1, "none")))
            self.no(with_rules((True, "tick", 1, "none")))
            self.no(with_rules((0, "tick", True, "none")))
            self.no(with_rules((0, "tick", False, "none")))

    def test_what_is_no_pair_of_triples(self):
        for value in ODD_VALUES + ("ab", "abc", (EMPTY,), (EMPTY, EMPTY, EMPTY), (EMPTY, None), (None, EMPTY), EMPTY):
            self.no(value)
        for side in ((1, 0), (1, 0, (), ()), (0, 1, ()), ((), 1, 0), "abc", (1, 0, ""), (1, 0, None), (1, 0, 0)):
            self.no((side, EMPTY))
            self.no((EMPTY, side))
        for rule in ((), (0, "tick", 1), (0, "tick", 1, "none", 0), "tick", "0t1n", None, 0, ("tick", 0, 1, "none")):
            self.no(host_with(rule))
            self.no(device_with(rule))

    def test_large_values(self):
        self.no(((1, 0, tuple((0, "tick", 0, "none") for _ in range(900))), EMPTY))
        self.no(tuple(range(5000)))
        deep = ()
        for _ in range(18):
            deep = (deep,)
        self.no(deep)
        self.no((deep, deep))
        self.no(((1, 0, deep), EMPTY))
        self.no(host_with((0, deep, 1, "none")))
        self.no(host_with((0, "tick", 1, [deep])))
        self.no(host_with((0, "x" * 20000, 1, "none")))


class ChangedAtOnePlace(unittest.TestCase):
    """Values that differ from a protocol at one place, at any depth."""

    def expected(self, value):
        """Tell by the words of [14] and [15] whether value is a protocol."""
        def integer(part, low, high):
            return type(part) is int and low <= part <= high

        def row(part, many):
            return type(part) in (list, tuple) and len(part) == many

        if not row(value, 2):
            return False
        for at, side in enumerate(value):
            if not row(side, 3) or not integer(side[0], 1, 5) or not integer(side[1], 0, side[0] - 1):
                return False
            if type(side[2]) not in (list, tuple) or len(side[2]) > 12:
                return False
            pulled = []
            for number, rule in enumerate(side[2]):
                if not row(rule, 4):
                    return False
                if not integer(rule[0], 0, side[0] - 1) or not integer(rule[2], 0, side[0] - 1):
                    return False
                if rule[1] not in list(WHENS) or rule[3] not in list(ACTS):
                    return False
                if rule[3] == ("tell", "take")[at]:
                    return False
                if rule[1] == "pull" and (rule[3] != "none" or rule[0] in pulled):
                    return False
                if rule[1] == "pull":
                    pulled.append(rule[0])
                if list(rule) in [list(other) for other in side[2][:number]]:
                    return False
        return True

    def test_changed_at_one_place(self):
        refused = 0
        for protocol in (TWICE, as_lists(TWICE), mixed(PROVED_PULL)):
            for value in changed(protocol, ODD_VALUES + ("pull", "got 1", "take", "tell", "none", 1, 2, 5)):
                expected = self.expected(value)
                refused += not expected
                self.assertIs(is_protocol(value), expected, value)
                if expected:
                    self.assertIsInstance(ready(value, (1, 0, 0, -1, -1, 0)), tuple)
                else:
                    check_error(self, BadValue, 0, ready, value, (1, 0, 0, -1, -1, 0))
        self.assertGreater(refused, 500)

    def test_first_argument_is_asked_first(self):
        bad = ((1, 0, ()), (True, 0, ()))
        check_error(self, BadValue, 0, ready, bad, None)
        check_error(self, BadValue, 0, after, bad, None, None)
        check_error(self, BadValue, 0, after, bad, (1, 0, 0, -1, -1, 0), ("pull",))
        check_error(self, BadValue, 0, verdict, bad)
        check_error(self, BadValue, 0, run_holds, bad, "gone", None)
        check_error(self, BadValue, 0, run_holds, bad, "stuck", ())
        check_error(self, BadValue, 0, grounds, bad)
        check_error(self, BadValue, 0, grounds_hold, bad, None)
        check_error(self, BadValue, 0, grounds_hold, bad, ())

    def test_each_odd_value_is_no_protocol(self):
        for odd in ODD_VALUES:
            check_error(self, BadValue, 0, ready, odd, (1, 0, 0, -1, -1, 0))
            check_error(self, BadValue, 0, after, odd, (1, 0, 0, -1, -1, 0), ("pull",))
            check_error(self, BadValue, 0, verdict, odd)
            check_error(self, BadValue, 0, run_holds, odd, "lost", ())
            check_error(self, BadValue, 0, grounds, odd)
            check_error(self, BadValue, 0, grounds_hold, odd, ())

    def test_the_same_for_lists_and_tuples(self):
        for form in (as_lists(PROVED), mixed(PROVED), mixed(PROVED, 1)):
            before = copy.deepcopy(form)
            told = grounds(PROVED)
            self.assertEqual(shown(grounds(form)), shown(told))
            self.assertIs(grounds_hold(form, as_lists(told)), True)
            self.assertIs(verdict(form), None)
            self.assertIs(run_holds(form, "stuck", []), False)
            self.assertEqual(ready(form, [1, 0, 0, -1, -1, 0]), (("host", 0), ("pull",)))
            self.assertEqual(shown(form), shown(before))


if __name__ == "__main__":
    unittest.main()
