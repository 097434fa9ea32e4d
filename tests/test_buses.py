"""[9], [10], [44]: buses as a whole, copies and equality."""

import random
import unittest

from pullsafe.buses import Bus
from pullsafe.errors import BadValue, NoDriver, NoName, NoPort, NotNow, PullError, TooMany
from tests import bus_model
from tests.bus_model import SlowBus
from tests.bus_samples import chain, device, facts, hub
from tests.samples import (
    ODD_VALUES, PROVED, PROVED_PULL, SAMPLES, STUCK_BY_PULL, TWICE, as_lists, mixed, near_proved, raised,
    random_protocols, shown,
)

METHODS = (
    "plug", "pull", "names", "at", "driver", "drop", "drivers", "bound", "send", "waiting", "told", "taken", "go", "link",
    "serials", "kept", "run",
)
QUESTIONS = ("names", "at", "drivers", "bound", "waiting", "told", "taken", "link", "serials", "kept")
WORDS = ("disk", "mouse", "pen")


def answer(bus, method, parts):
    """Return what a call returns, or the class of its error and what the error keeps."""
    try:
        return ("value", getattr(bus, method)(*parts))
    except PullError as error:
        return (type(error).__name__, vars(error))


def random_thing(dice, depth):
    if depth == 0 or dice.randrange(3) == 0:
        return device(dice.randrange(dice.choice((4, 14, 60))), dice.choice(WORDS))
    parts = [random_thing(dice, depth - 1) if dice.randrange(2) else None for _ in range(4)]
    return hub(*parts, word=dice.choice(("hub",) + WORDS))


def random_path(dice, slow):
    """Return a path, often to a port of a plugged hub."""
    tops = [()] + [row[1] for row in slow.names() if row[2] == "hub"]
    path = dice.choice(tops) + (dice.randrange(4),)
    if dice.randrange(10) == 0:
        path = tuple(dice.randrange(-1, 5) for _ in range(dice.randrange(7)))
    return path if dice.randrange(2) else list(path)


def random_parts(dice, slow, method):
    """Return arguments for a method, often such as are not refused."""
    kinds = ("device",) if dice.randrange(6) else ("device", "hub")
    names = [row[0] for row in slow.names() if row[2] in kinds]
    name = dice.choice(names) if names and dice.randrange(8) else dice.choice((0, 1, 2, 5, 21, True, None, "1"))
    word = dice.choice(WORDS + ("hub", "other")) if dice.randrange(12) else dice.choice(ODD_VALUES)
    event = (dice.choice(("host", "device")), dice.randrange(7))
    if method == "plug":
        thing = random_thing(dice, dice.randrange(4)) if dice.randrange(8) else chain(dice.randint(2, 6))
        return (random_path(dice, slow), as_lists(thing) if dice.randrange(2) else mixed(thing))
    if method == "pull":
        paths = [row[1] for row in slow.names()]
        return (dice.choice(paths) if paths and dice.randrange(6) else random_path(dice, slow),)
    if method in ("driver", "drop"):
        return (word,)
    if method == "send":
        return (name, dice.choice(("a", "bc d", " ", "z" * 40) if dice.randrange(10) else ("", "A", "z" * 41, 1)))
    if method == "go":
        events = slow.possible(name) if answer(slow, "link", (name,))[0] == "value" else []
        if events and dice.randrange(4):
            event = dice.choice(events)
        elif dice.randrange(4) == 0:
            event = dice.choice((("plug",), ("pull",), None, ("host", True), "host", ()))
        return (name, as_lists(event) if dice.randrange(2) else event)
    if method == "run":
        return (name, dice.choice((0, 1, 3, 20) if dice.randrange(8) else (-1, 1001, True, "3")))
    if method == "kept":
        return (dice.randrange(14) if dice.randrange(6) else dice.choice(ODD_VALUES),)
    if method in ("at", "waiting", "told", "taken", "link"):
        return (name,)
    return ()


def weighted_method(dice):
    """Return the name of a method, those that move a bus on oftener than others."""
    return dice.choice(METHODS + ("plug",) * 4 + ("pull", "driver", "driver", "send", "send", "send") + ("go",) * 12)


class Whole(unittest.TestCase):
    def check_call(self, bus, slow, method, parts):
        """Do a call with both accounts; return its outcome."""
        before = bus.copy()
        shown_parts = shown(parts)
        told, expected = answer(bus, method, parts), answer(slow, method, parts)
        self.assertEqual(shown(told), shown(expected), (method, parts))
        self.assertEqual(shown(parts), shown_parts)
        if told[0] in ("NoPort", "NoName", "NotNow") or (told[0] == "NoDriver" and method == "drop"):
            self.assertIs(list(told[1].values())[0], parts[1] if method == "go" and told[0] == "NotNow" else parts[0])
        if told[0] != "value" or method in QUESTIONS:
            self.assertTrue(bus == before)
            self.assertEqual(facts(bus), facts(before))
        return told[0]

    def check_whole(self, bus, slow):
        self.assertEqual(facts(bus), facts(slow))
        names = [row[0] for row in bus.names()]
        self.assertEqual(names, sorted(set(names)))

    def test_random_calls(self):
        dice = random.Random(81)
        met = {}
        protocols = SAMPLES + (PROVED, STUCK_BY_PULL) + tuple(near_proved(82, 10) + random_protocols(83, 10, 3, 7))
        for protocol in protocols:
            bus, slow = Bus(mixed(protocol)), SlowBus(protocol)
            for _ in range(200):
                method = weighted_method(dice)
                word = self.check_call(bus, slow, method, random_parts(dice, slow, method))
                met[(method, word)] = met.get((method, word), 0) + 1
                self.check_whole(bus, slow)
        for method in METHODS:
            self.assertGreater(met.get((method, "value"), 0), 5, method)
        for pair in (("plug", "BadValue"), ("plug", "NoPort"), ("plug", "TooMany"), ("pull", "NoPort"), ("at", "NoName"),
                     ("driver", "BadValue"), ("drop", "NoDriver"), ("send", "NoName"), ("send", "BadValue"),
                     ("send", "NoDriver"), ("go", "NoName"), ("go", "NotNow"), ("run", "NoName"), ("run", "BadValue"),
                     ("kept", "BadValue"), ("link", "NoName"), ("told", "NoName"), ("taken", "NoName"),
                     ("waiting", "NoName")):
            self.assertGreater(met.get(pair, 0), 3, pair)

    def test_equal_just_where_the_second_account_is(self):
        dice = random.Random(84)
        equal = other = 0
        for protocol in (PROVED, TWICE, STUCK_BY_PULL):
            pairs = []
            for _ in range(60):
                bus, slow = Bus(protocol), SlowBus(protocol)
                for _ in range(dice.randrange(6)):
                    method, parts = dice.choice((
                        ("plug", ((dice.randrange(2),), device(dice.randrange(2)))), ("pull", ((dice.randrange(2),),)),
                        ("driver", ("disk",)), ("send", (1, "a")), ("go", (1, ("host", 0))), ("drop", ("disk",)),
                    ))
                    self.check_call(bus, slow, method, parts)
                pairs.append((bus, slow))
            for one, slow_one in pairs:
                for two, slow_two in pairs:
                    expected = slow_one.everything() == slow_two.everything()
                    self.assertIs(one == two, expected)
                    self.assertIs(one != two, not expected)
                    equal += expected
                    other += not expected
        self.assertGreater(equal, 200)
        self.assertGreater(other, 200)


class Copies(unittest.TestCase):
    def full(self):
        bus = Bus(PROVED)
        bus.driver("disk")
        bus.driver("pen")
        bus.plug((0,), hub(device(1), device(2, "pen"), hub(device(3))))
        bus.plug((1,), device(4))
        for name in (2, 3, 6):
            bus.send(name, "a")
            bus.send(name, "b")
            bus.go(name, ("host", 0))
        bus.pull((0, 2))
        return bus

    def changes(self):
        """Return calls that change the full bus."""
        return (
            ("plug", ((2,), device(9))), ("plug", ((2,), hub())), ("plug", ((0, 3), device(3))), ("pull", ((0,),)),
            ("pull", ((1,),)), ("driver", ("mouse",)), ("drop", ("disk",)), ("send", (2, "c")), ("go", (2, ("host", 1))),
            ("run", (3, 5)),
        )

    def test_a_copy_is_the_same(self):
        bus = self.full()
        other = bus.copy()
        self.assertIsNot(bus, other)
        self.assertIs(type(other), Bus)
        self.assertTrue(bus == other and other == bus)
        self.assertFalse(bus != other)
        self.assertEqual(facts(bus), facts(other))

    def test_changes_independently_both_ways(self):
        for method, parts in self.changes():
            for turn in (0, 1):
                pair = [self.full()]
                pair.append(pair[0].copy())
                before = facts(pair[1 - turn])
                self.assertEqual(answer(pair[turn], method, parts)[0], "value")
                self.assertEqual(facts(pair[1 - turn]), before)
                self.assertFalse(pair[0] == pair[1], (method, parts))
                self.assertTrue(pair[0] != pair[1])
                answer(pair[1 - turn], method, parts)
                self.assertTrue(pair[0] == pair[1], (method, parts))

    def test_equal_buses_answer_alike(self):
        one, two = self.full(), self.full()
        for first in self.changes():
            for second in self.changes():
                here, there = one.copy(), two.copy()
                for method, parts in (first, second):
                    self.assertEqual(shown(answer(here, method, parts)), shown(answer(there, method, parts)))
                    self.assertTrue(here == there)
                    self.assertEqual(facts(here), facts(there))

    def test_a_copy_of_a_copy(self):
        bus = self.full()
        other = bus.copy().copy()
        bus.pull((1,))
        self.assertTrue(other == self.full())


class Equality(unittest.TestCase):
    def test_protocols(self):
        self.assertTrue(Bus(PROVED) == Bus(as_lists(PROVED)))
        for one in SAMPLES:
            for two in SAMPLES:
                self.assertIs(Bus(one) == Bus(two), one == two)
        self.assertTrue(Bus(PROVED) != Bus(PROVED_PULL))

    def test_other_values(self):
        class Anything:
            def __eq__(self, other):
                return True

        bus = Bus(TWICE)
        for other in ODD_VALUES + (TWICE, Bus, object(), SlowBus(TWICE), {}, 1, 0, {"a": 1}):
            self.assertIs(bus == other, False)
            self.assertIs(bus != other, True)
        self.assertIs(bus == Anything(), False)
        self.assertIs(bus == bus, True)

    def test_other_ways_to_the_same(self):
        one, two = Bus(PROVED), Bus(PROVED)
        one.plug((0,), hub(device(1), device(2)))
        two.plug([0], ["hub", "hub", []])
        two.plug([0, 0], ["device", "disk", 1])
        two.plug([0, 1], ["device", "disk", 2])
        self.assertTrue(one == two)
        for word in ("disk", "pen", "mouse"):
            one.driver(word)
        for word in ("pen", "disk", "pen", "mouse"):
            if word in two.drivers():
                two.drop(word)
            two.driver(word)
        self.assertEqual(two.drivers(), ("disk", "pen", "mouse"))
        self.assertTrue(one == two)
        one.send(2, "a")
        one.send(3, "b")
        two.send(3, "b")
        self.assertFalse(one == two)
        two.send(2, "a")
        self.assertTrue(one == two)

    def test_links_in_another_sequence(self):
        one, two = Bus(PROVED), Bus(PROVED)
        one.plug((0,), device(1))
        one.pull((0,))
        one.plug((0,), device(2))
        one.pull((0,))
        two.plug((0,), device(2))
        two.pull((0,))
        self.assertFalse(one == two)
        two.plug((0,), device(1))
        two.pull((0,))
        self.assertTrue(one == two)

    def test_names_count(self):
        one, two = Bus(PROVED), Bus(PROVED)
        one.plug((0,), device(1))
        one.plug((1,), device(2))
        two.plug((1,), device(2))
        two.plug((0,), device(1))
        self.assertFalse(one == two)

    def test_drivers_count_in_their_sequence(self):
        one, two = Bus(PROVED), Bus(PROVED)
        one.driver("a")
        one.driver("b")
        two.driver("b")
        self.assertFalse(one == two)
        two.driver("a")
        self.assertFalse(one == two)
        two.drop("b")
        two.driver("b")
        self.assertTrue(one == two)

    def test_words_kinds_and_serials_count(self):
        def plugged(thing):
            bus = Bus(PROVED)
            bus.plug((0,), thing)
            return bus

        things = (device(1), device(2), device(1, "pen"), hub(), hub(word="disk"), hub(device(1)), hub(None, device(1)))
        for one in things:
            for two in things:
                self.assertIs(plugged(one) == plugged(two), one == two)
        # The same links, but the serials are plugged the other way round.
        one, two = Bus(PROVED), Bus(PROVED)
        for bus, first, second in ((one, 1, 2), (two, 2, 1)):
            bus.plug((0,), device(first))
            bus.plug((1,), device(second))
        self.assertEqual(facts(one), facts(two))
        self.assertFalse(one == two)

    def test_pulled_links_count(self):
        one, two = Bus(PROVED), Bus(PROVED)
        one.plug((0,), device(1))
        one.pull((0,))
        self.assertFalse(one == two)
        self.assertEqual(one.names(), two.names())

    def test_the_letter_taken_last_counts(self):
        # Behind a tell it is not asked for, but a second tell would tell it.
        host = (1, 0, ((0, "tick", 0, "take"),))
        protocol = (host, (1, 0, ((0, "tick", 0, "tell"),)))
        buses = []
        for letters in (("a", "b"), ("b", "a"), ("a", "a")):
            bus = Bus(protocol)
            bus.driver("disk")
            bus.plug((0,), device(1))
            bus.send(1, letters[0])
            bus.go(1, ("host", 0))
            bus.send(1, letters[1])
            bus.go(1, ("host", 0))
            buses.append(bus)
        for at, bus in enumerate(buses):
            for other, second in enumerate(buses):
                alike = at == other or {at, other} == {1, 2}
                self.assertIs(bus == second, alike)
        for bus in buses:
            bus.go(1, ("device", 0))
        self.assertEqual([bus.told(1) for bus in buses], [("b",), ("a",), ("a",)])

    def test_plug_and_pull_give_back_what_they_found(self):
        for path, thing in (((2,), hub(device(50), device(51, "pen"))), ((0, 3), device(52)), ((0, 2), chain(3))):
            bus = Bus(PROVED)
            bus.driver("disk")
            bus.plug((0,), hub(device(1), device(2)))
            before = bus.copy()
            bus.plug(path, thing)
            self.assertFalse(bus == before)
            bus.pull(path)
            self.assertEqual(facts(bus)[:4], facts(before)[:4])
            # A device that was never plugged before leaves its link.
            self.assertIs(bus == before, bus.serials() == before.serials())

    def test_errors_of_each_class_change_nothing(self):
        bus = Bus(PROVED)
        bus.driver("disk")
        bus.plug((0,), hub(device(1), device(2, "pen")))
        for _ in range(50):
            bus.send(2, "a")
        before, told = bus.copy(), facts(bus)
        calls = (
            (BadValue, "plug", ((1,), None)), (BadValue, "plug", ((1,), device(1))), (NoPort, "plug", ((0,), hub())),
            (TooMany, "plug", ((1,), chain(6))), (NoPort, "pull", ((2,),)), (NoName, "at", (9,)),
            (BadValue, "driver", ("disk",)), (NoDriver, "drop", ("pen",)), (NoName, "send", (1, "a")),
            (BadValue, "send", (2, "")), (NoDriver, "send", (3, "a")), (TooMany, "send", (2, "a")),
            (NoName, "go", (1, ("host", 0))), (NotNow, "go", (2, ("pull",))), (NotNow, "go", (3, ("host", 0))),
            (BadValue, "kept", (3,)), (NoName, "run", (1, 1)), (BadValue, "run", (2, 1001)), (NoName, "link", (1,)),
        )
        for kind, method, parts in calls:
            self.assertIs(type(raised(getattr(bus, method), *parts)), kind, (method, parts))
            self.assertTrue(bus == before)
            self.assertEqual(facts(bus), told)

    def test_methods_return_none(self):
        bus = Bus(PROVED)
        bus.plug((0,), device(1))
        for method, parts in (("driver", ("disk",)), ("send", (1, "a")), ("go", (1, ("host", 0))), ("drop", ("disk",)),
                              ("pull", ((0,),))):
            self.assertIs(getattr(bus, method)(*parts), None)

    def test_the_second_account_knows_things(self):
        self.assertTrue(bus_model.is_thing(hub(device(1))))
        self.assertFalse(bus_model.is_thing(hub(device(1), device(1))))


if __name__ == "__main__":
    unittest.main()
