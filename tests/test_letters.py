"""[8], [40] to [43]: links, letters, go and run."""

import random
import unittest

from pullsafe.buses import Bus
from pullsafe.errors import BadValue, NoDriver, NoName, NotNow, TooMany
from pullsafe.protocols import after, ready
from pullsafe.proving import verdict
from tests.bus_model import SlowBus
from tests.bus_samples import device, facts, hub, refused
from tests.samples import (
    LOST, ODD_VALUES, PROVED, PROVED_PULL, SAMPLES, STUCK_BY_PULL, TWICE, TWICE_BY_PULL, as_lists, check_plain,
    near_proved, raised, random_protocols,
)

START = (1, 0, 0, -1, -1, 0)
SIGNS = "abcdefghijklmnopqrstuvwxyz "

# Letters are told without any being taken; frames go round without a change of state.
FREE = (
    (2, 0, (
        (0, "tick", 0, "none"), (0, "tick", 0, "send 1"), (0, "tick", 1, "take"), (1, "tick", 1, "take"),
        (1, "got 0", 0, "none"),
    )),
    (1, 0, ((0, "got 1", 0, "none"), (0, "tick", 0, "tell"), (0, "got 2", 0, "tell"), (0, "tick", 0, "send 0"))),
)

# At state 1 the host can only take, and the device never tells.
TAKER = (
    (1, 0, ((0, "tick", 0, "none"), (0, "tick", 0, "take"))),
    (1, 0, ((0, "tick", 0, "none"),)),
)

BAD_LETTERS = ODD_VALUES[:3] + (
    "", "x" * 41, "X", "a1", "a.b", "a\n", "a\tb", "\u00e4", "a-b", 0, 1, -1, (), [], ["a"], ("a",), "x" * 20000, 10 ** 30,
)

BAD_NAMES = tuple(odd for odd in ODD_VALUES if odd != 7) + (0, 3, 20, "1", "disk", [1], (1,), [2])


def bus_with(protocol, *words):
    """Return a bus with devices that have these words and the serials 10, 11 .., and drivers for them."""
    bus = Bus(protocol)
    for at, word in enumerate(words):
        bus.plug((at,), device(10 + at, word))
        if word not in bus.drivers():
            bus.driver(word)
    return bus


def do(bus, name, *events):
    for event in events:
        bus.go(name, event)


def possible(bus, name):
    """Return the events of rules that go would do."""
    events = [(side, number) for side in ("device", "host") for number in range(12)]
    return [event for event in events if raised(bus.copy().go, name, event) is None]


class Send(unittest.TestCase):
    def test_behind_the_others(self):
        bus = bus_with(PROVED, "disk", "disk")
        for letter in ("one", "two words", "one", " "):
            self.assertIs(bus.send(1, letter), None)
        bus.send(letter="other", name=2)
        self.assertEqual(bus.waiting(1), ("one", "two words", "one", " "))
        self.assertEqual(bus.waiting(name=2), ("other",))
        self.assertEqual((bus.told(1), bus.taken(1), bus.link(1)), ((), None, START))
        check_plain(self, bus.waiting(1))

    def test_letters(self):
        bus = bus_with(PROVED, "disk")
        good = list(SIGNS) + ["x" * 40, " " * 40, SIGNS, " a ", "tick"]
        for letter in good:
            bus.send(1, letter)
        self.assertEqual(bus.waiting(1), tuple(good))
        for letter in BAD_LETTERS:
            refused(self, BadValue, 1, bus, "send", 1, letter)

    def test_names_that_are_none(self):
        bus = bus_with(PROVED, "disk")
        bus.plug((1,), hub(word="disk"))
        for name in BAD_NAMES + (2,):
            refused(self, NoName, name, bus, "send", name, "a")
            refused(self, NoName, name, bus, "send", name, None)
        bus.pull((0,))
        refused(self, NoName, 1, bus, "send", 1, "a")

    def test_without_a_driver(self):
        bus = bus_with(PROVED, "disk")
        bus.plug((1,), device(20, "pen"))
        refused(self, NoDriver, "pen", bus, "send", 2, "a")
        bus.driver("pen")
        bus.send(2, "a")
        bus.drop("pen")
        refused(self, NoDriver, "pen", bus, "send", 2, "a")
        self.assertEqual(bus.waiting(2), ("a",))
        bus.go(2, ("host", 0))
        self.assertEqual(bus.taken(2), "a")

    def test_fifty_wait(self):
        bus = bus_with(PROVED, "disk", "disk")
        for at in range(50):
            bus.send(1, SIGNS[at % 26] * 3)
        for letter in ("a", "x" * 40):
            refused(self, TooMany, None, bus, "send", 1, letter)
        bus.send(2, "a")
        bus.go(1, ("host", 0))
        self.assertEqual(len(bus.waiting(1)), 49)
        bus.send(1, "last")
        refused(self, TooMany, None, bus, "send", 1, "a")
        self.assertEqual(bus.waiting(1)[-1], "last")

    def test_sequence_of_errors(self):
        bus = bus_with(PROVED, "disk")
        for _ in range(50):
            bus.send(1, "a")
        refused(self, TooMany, None, bus, "send", 1, "a")
        bus.drop("disk")
        refused(self, NoDriver, "disk", bus, "send", 1, "a")
        refused(self, BadValue, 1, bus, "send", 1, "A")
        refused(self, NoName, True, bus, "send", True, "A")


class Go(unittest.TestCase):
    def test_a_letter_on_its_way(self):
        bus = bus_with(PROVED, "disk")
        bus.send(1, "one")
        bus.send(1, "two")
        steps = (
            (("host", 0), "one", (), (1, 1, 0, -1, -1, 1)), (("host", 1), "one", (), (1, 1, 0, 0, -1, 1)),
            (("device", 0), None, ("one",), (1, 1, 1, -1, -1, 0)), (["device", 1], None, ("one",), (1, 1, 2, -1, 0, 0)),
            (["host", 2], None, ("one",), (1, 2, 2, -1, -1, 0)), (("host", 3), "two", ("one",), (1, 3, 2, -1, -1, 1)),
        )
        for event, taken, told, state in steps:
            self.assertIs(bus.go(event=event, name=1), None)
            self.assertEqual((bus.taken(1), bus.told(name=1), bus.link(name=1)), (taken, told, state))
            check_plain(self, bus.link(1))
            check_plain(self, bus.told(1))
        self.assertEqual(bus.waiting(1), ())
        self.assertEqual(bus.kept(10), ((1, 3, 2, -1, -1, 1), (), ("one",)))
        self.assertEqual(bus.taken(name=1), "two")

    def refused_event(self, bus, name, event):
        refused(self, NotNow, event, bus, "go", name, event)
        listed = as_lists(event)
        refused(self, NotNow, listed, bus, "go", name, listed)

    def test_what_is_not_ready(self):
        bus = bus_with(PROVED, "disk")
        bus.send(1, "one")
        for number in range(-2, 14):
            if number != 0:
                self.refused_event(bus, 1, ("host", number))
            self.refused_event(bus, 1, ("device", number))

    def test_take_where_no_letter_waits(self):
        for protocol in (PROVED, TWICE, LOST, TAKER):
            bus = bus_with(protocol, "disk", "disk")
            take = ("host", 1) if protocol == TAKER else ("host", 0)
            self.refused_event(bus, 1, take)
            bus.send(2, "a")
            self.refused_event(bus, 1, take)
            bus.send(1, "b")
            bus.go(1, take)
            self.assertEqual(bus.taken(1), "b")
            self.refused_event(bus, 1, take)

    def test_plug_and_pull(self):
        bus = bus_with(PROVED_PULL, "disk")
        for event in (("plug",), ("pull",), ("host", 6), ("host", 7), ("device", 6)):
            self.refused_event(bus, 1, event)

    def test_what_is_no_event(self):
        bus = bus_with(LOST, "disk")
        bus.send(1, "a")
        for event in ODD_VALUES + (
            ("host",), ("host", 0, 0), ("host", True), ("host", False), ("host", "0"), ("Host", 0), (0, "host"), "host",
            ("host", (0,)), ("host", 10 ** 30), ("host", None), ("take", 0), ("plug", 0), ("tick", 0), (["host"], 0),
            ("pull", 0), ("host", -1), ("device", 0), 0, 1, ["pull"], (("host", 0),), "x" * 20000,
        ):
            refused(self, NotNow, event, bus, "go", 1, event)

    def test_the_very_thing_is_kept(self):
        bus = bus_with(PROVED, "disk")
        event = ["host", 0]
        self.assertIs(raised(bus.go, 1, event).event, event)
        event = ["host", [0, "x"]]
        self.assertIs(raised(bus.go, name=1, event=event).event, event)

    def test_names_come_before_events(self):
        bus = bus_with(PROVED, "disk")
        bus.plug((1,), hub())
        for name in BAD_NAMES + (2,):
            refused(self, NoName, name, bus, "go", name, ("host", 0))
            refused(self, NoName, name, bus, "go", name, None)

    def test_needs_no_driver(self):
        bus = bus_with(PROVED, "disk")
        bus.send(1, "a")
        bus.drop("disk")
        do(bus, 1, ("host", 0), ("host", 1), ("device", 0))
        self.assertEqual(bus.told(1), ("a",))

    def test_tell_where_none_was_ever_taken(self):
        bus = bus_with(FREE, "disk")
        for _ in range(3):
            bus.go(1, ("device", 1))
            self.assertEqual((bus.told(1), bus.taken(1), bus.link(1)), ((), None, START))
        bus.send(1, "a")
        bus.go(1, ("device", 1))
        self.assertEqual(bus.told(1), ())
        self.assertEqual(bus.waiting(1), ("a",))

    def test_tell_twice_and_take_again(self):
        bus = bus_with(FREE, "disk")
        for letter in ("a", "b", "c"):
            bus.send(1, letter)
        do(bus, 1, ("host", 2), ("device", 1), ("device", 1))
        self.assertEqual((bus.told(1), bus.taken(1)), (("a", "a"), None))
        do(bus, 1, ("host", 3))
        self.assertEqual(bus.taken(1), "b")
        do(bus, 1, ("host", 3))
        self.assertEqual((bus.told(1), bus.taken(1), bus.waiting(1)), (("a", "a"), "c", ()))
        do(bus, 1, ("device", 1))
        self.assertEqual(bus.told(1), ("a", "a", "c"))

    def test_the_document_s_wrong_run(self):
        bus = bus_with(TWICE, "disk")
        bus.send(1, "a")
        do(bus, 1, *verdict(TWICE)[1])
        self.assertEqual(bus.told(1), ("a", "a"))


class Questions(unittest.TestCase):
    def test_names_that_are_none(self):
        bus = bus_with(PROVED, "disk")
        bus.plug((1,), hub(word="disk"))
        for name in BAD_NAMES + (2,):
            for method in ("waiting", "told", "taken", "link"):
                refused(self, NoName, name, bus, method, name)
        bus.plug((1, 0), device(50))
        self.assertEqual([bus.waiting(3), bus.told(3), bus.taken(3), bus.link(3)], [(), (), None, START])
        bus.pull((1,))
        for method in ("waiting", "told", "taken", "link"):
            refused(self, NoName, 3, bus, method, 3)

    def test_the_very_thing_is_kept(self):
        bus = bus_with(PROVED, "disk")
        name = ["a"]
        for method in ("waiting", "told", "taken", "link", "at"):
            self.assertIs(raised(getattr(bus, method), name).name, name)
            self.assertIs(raised(getattr(bus, method), name=name).name, name)

    def test_serials_and_kept(self):
        bus = Bus(PROVED)
        self.assertEqual(bus.serials(), ())
        bus.plug((0,), device(99))
        bus.plug((1,), hub(device(3), device(0), hub(device(50))))
        self.assertEqual(bus.serials(), (0, 3, 50, 99))
        self.assertEqual(bus.kept(serial=0), (START, (), ()))
        bus.pull((1,))
        self.assertEqual(bus.serials(), (0, 3, 50, 99))
        check_plain(self, bus.serials())
        check_plain(self, bus.kept(0))
        self.assertEqual(bus.kept(3), ((0, 0, 0, -1, -1, 0), (), ()))
        for serial in ODD_VALUES + (1, 2, 4, 98, 100, "0", [0], (3,)):
            refused(self, BadValue, 0, bus, "kept", serial)

    def test_true_is_no_serial_and_no_name(self):
        bus = Bus(PROVED)
        bus.plug((0,), device(0))
        bus.plug((1,), device(1))
        self.assertEqual(len(bus.names()), 2)
        for odd in (True, False):
            refused(self, BadValue, 0, bus, "kept", odd)
            for method in ("at", "waiting", "told", "taken", "link"):
                refused(self, NoName, odd, bus, method, odd)
            refused(self, NoName, odd, bus, "run", odd, 1)


class Links(unittest.TestCase):
    def test_kept_over_pull_and_plug_at_another_port(self):
        bus = bus_with(PROVED, "disk")
        bus.driver("pen")
        for letter in ("a", "b", "c"):
            bus.send(1, letter)
        do(bus, 1, ("host", 0), ("host", 1), ("device", 0), ("device", 1), ("host", 2), ("host", 3), ("host", 4))
        self.assertEqual(bus.kept(10), ((1, 3, 2, 1, -1, 1), ("c",), ("a",)))
        bus.pull((0,))
        self.assertEqual(bus.kept(10), ((0, 3, 2, -1, -1, 1), ("c",), ("a",)))
        bus.plug((1,), device(30))
        bus.plug((2,), hub(None, device(10, "pen")))
        self.assertEqual(bus.at(3), (2, 1))
        self.assertEqual(bus.kept(10), ((1, 3, 2, -1, -1, 1), ("c",), ("a",)))
        self.assertEqual((bus.taken(3), bus.waiting(3), bus.told(3)), ("b", ("c",), ("a",)))
        self.assertEqual(bus.kept(30), (START, (), ()))
        bus.pull((2,))
        bus.plug((0,), device(10))
        do(bus, 2, ("host", 4), ("device", 3))
        self.assertEqual(bus.told(2), ("a", "b"))

    def test_rules_with_pull(self):
        bus = bus_with(TWICE_BY_PULL, "disk")
        bus.send(1, "a")
        do(bus, 1, ("host", 0), ("host", 1), ("device", 0), ("device", 1))
        self.assertEqual(bus.link(1), (1, 1, 2, -1, 0, 0))
        bus.pull((0,))
        self.assertEqual(bus.kept(10)[0], (0, 1, 0, -1, -1, 0))
        bus.plug((0,), device(10))
        do(bus, 1, ("host", 1), ("device", 0))
        self.assertEqual(bus.told(1), ("a", "a"))

    def test_pull_of_a_hub_and_its_devices(self):
        bus = Bus(PROVED)
        bus.driver("disk")
        bus.plug((0,), hub(device(1), hub(device(2)), device(3)))
        bus.plug((1,), device(4))
        for name in (2, 4, 5, 6):
            bus.send(name, "a")
            do(bus, name, ("host", 0), ("host", 1))
        bus.pull((0, 1))
        self.assertEqual([bus.kept(serial)[0] for serial in range(1, 5)], [
            (1, 1, 0, 0, -1, 1), (0, 1, 0, -1, -1, 1), (1, 1, 0, 0, -1, 1), (1, 1, 0, 0, -1, 1)])
        bus.pull((0,))
        self.assertEqual([bus.kept(serial)[0][0] for serial in range(1, 5)], [0, 0, 0, 1])

    def test_pulls_are_the_events_of_the_link(self):
        for protocol in SAMPLES + tuple(random_protocols(71, 60)):
            bus = Bus(protocol)
            bus.plug((0,), device(5))
            state = bus.link(1)
            self.assertEqual(state, (1, protocol[0][1], protocol[1][1], -1, -1, 0))
            for at in range(12):
                rows = [event for event in ready(protocol, state) if len(event) == 2]
                rows = [event for event in rows if event[0] == "device" or protocol[0][2][event[1]][3] != "take"]
                if at % 4 < 3 and rows:
                    event = rows[(at * 7) % len(rows)]
                    bus.go(1, event)
                    state = after(protocol, state, event)
                    self.assertEqual(bus.link(1), state)
                else:
                    bus.pull(bus.at(1))
                    state = after(protocol, state, ("pull",))
                    self.assertEqual(bus.kept(5)[0], state)
                    bus.plug((at % 3,), device(5, "pen"))
                    state = after(protocol, state, ("plug",))
                    self.assertEqual(bus.kept(5)[0], state)


class Run(unittest.TestCase):
    def test_to_the_end_of_the_letters(self):
        bus = bus_with(STUCK_BY_PULL, "disk")
        sent = tuple("letter " + sign for sign in SIGNS[:20])
        for letter in sent:
            bus.send(1, letter)
        events = bus.run(1, 1000)
        check_plain(self, events)
        self.assertEqual(len(events), 100)
        self.assertEqual(bus.waiting(1), ())
        self.assertEqual(bus.told(1), sent)
        self.assertIn(("host", 0), events)
        self.assertNotIn(("pull",), events)

    def test_most(self):
        whole = bus_with(PROVED, "disk")
        whole.send(1, "a")
        self.assertEqual(whole.copy().run(1, 0), ())
        one = whole.copy()
        self.assertEqual(one.run(1, 1), (("host", 0),))
        self.assertEqual(one.taken(1), "a")
        self.assertEqual(one.run(1, 1), (("host", 1),))
        self.assertEqual(len(one.run(most=7, name=1)), 7)
        self.assertEqual(len(bus_with(FREE, "disk").run(1, 1000)), 1000)
        other = bus_with(FREE, "disk")
        for most in (1, 2, 3, 4):
            self.assertEqual(len(other.run(1, most)), most)

    def test_stops_where_nothing_changes(self):
        bus = bus_with(STUCK_BY_PULL, "disk")
        self.assertEqual(bus.run(1, 1000), ())
        bus.send(1, "a")
        bus.send(1, "b")
        self.assertEqual(bus.run(1, 1000), (
            ("host", 0), ("host", 1), ("device", 0), ("device", 1), ("host", 2),
            ("host", 0), ("host", 1), ("device", 0), ("device", 1), ("host", 2),
        ))
        self.assertEqual(bus.told(1), ("a", "b"))
        self.assertEqual(bus.run(1, 1000), ())

    def test_events_passed_over(self):
        bus = bus_with(TAKER, "disk")
        self.assertEqual(bus.run(1, 5), ())
        for letter in ("a", "b"):
            bus.send(1, letter)
        # The second take leaves the state of the link as it was, but takes.
        self.assertEqual(bus.run(1, 5), (("host", 1), ("host", 1)))
        self.assertEqual((bus.taken(1), bus.waiting(1)), ("b", ()))

    def test_a_tell_that_leaves_the_state_is_not_passed_over(self):
        only = ((1, 0, ()), (1, 0, ((0, "tick", 0, "none"), (0, "tick", 0, "tell"))))
        bus = bus_with(only, "disk")
        self.assertEqual(bus.run(1, 3), (("device", 1),) * 3)
        self.assertEqual(bus.told(1), ())

    def test_a_send_of_the_frame_that_is_there_is_passed_over(self):
        only = ((1, 0, ((0, "tick", 0, "send 2"),)), (1, 0, ((0, "tick", 0, "send 1"),)))
        bus = bus_with(only, "disk")
        self.assertEqual(bus.run(1, 9), (("device", 0), ("host", 0)))
        self.assertEqual(bus.link(1), (1, 0, 0, 2, 1, 0))
        self.assertEqual(bus.run(1, 9), ())

    def test_most_that_is_none(self):
        bus = bus_with(PROVED, "disk")
        bus.send(1, "a")
        for most in ODD_VALUES + (1001, -1, "1", [1], (1,), 10 ** 6):
            if most not in (6, 7):
                refused(self, BadValue, 1, bus, "run", 1, most)
        for most in (0, 1, 999, 1000):
            self.assertIs(type(bus.copy().run(1, most)), tuple)

    def test_names_come_before_most(self):
        bus = bus_with(PROVED, "disk")
        bus.plug((1,), hub(word="disk"))
        for name in BAD_NAMES + (2,):
            refused(self, NoName, name, bus, "run", name, 5)
            refused(self, NoName, name, bus, "run", name, 1001)
            refused(self, NoName, name, bus, "run", name, None)

    def test_against_the_second_account(self):
        lengths = {}
        for at, protocol in enumerate(SAMPLES + (FREE, TAKER) + tuple(random_protocols(72, 120) + near_proved(73, 60))):
            bus, slow = Bus(protocol), SlowBus(protocol)
            for each in (bus, slow):
                each.plug((0,), device(5))
                each.driver("disk")
            for most in (at % 4, 1, 9, 40):
                for each in (bus, slow):
                    each.send(1, SIGNS[most % 26])
                events = bus.run(1, most)
                self.assertEqual(events, slow.run(1, most), protocol)
                self.assertEqual(bus.kept(5), slow.kept(5))
                self.assertEqual(bus.taken(1), slow.taken(1))
                lengths[len(events) == most] = lengths.get(len(events) == most, 0) + 1
        self.assertGreater(lengths[True], 50)
        self.assertGreater(lengths[False], 50)

    def test_run_is_a_row_of_goes(self):
        for protocol in SAMPLES + tuple(random_protocols(74, 60)):
            bus = Bus(protocol)
            bus.plug((0,), device(5))
            bus.driver("disk")
            for _ in range(4):
                bus.send(1, "a")
            other = bus.copy()
            do(other, 1, *bus.run(1, 30))
            self.assertTrue(bus == other)


class LettersInTheirOrder(unittest.TestCase):
    """[8]: with protocols that are neither lost nor twice."""

    def check(self, bus, sent):
        names = {serial: name for name, serial in self.serial_of.items()}
        for serial in bus.serials():
            state, waiting, told = bus.kept(serial)
            # The letter that is taken and not told is the next one that was sent.
            taken = tuple(sent[serial][len(told):len(told) + state[5]])
            self.assertEqual(told + taken + waiting, tuple(sent[serial]))
            self.assertEqual(len(taken), state[5])
            if serial in names:
                self.assertEqual(bus.taken(names[serial]), taken[0] if taken else None)

    def step(self, dice, bus, sent):
        names = [row[0] for row in bus.names()]
        name = dice.choice(names) if names else 1
        what = dice.randrange(10)
        if what == 0 and names:
            bus.pull(bus.at(name))
            self.serial_of.pop(name)
        elif what <= 2:
            serial, port = dice.randrange(3), dice.randrange(4)
            if raised(bus.copy().plug, (port,), device(serial)) is None:
                self.serial_of[bus.plug((port,), device(serial))] = serial
                sent.setdefault(serial, [])
        elif what <= 4 and names and len(bus.waiting(name)) < 50:
            letter = "".join(dice.choice(SIGNS) for _ in range(dice.randint(1, 5)))
            bus.send(name, letter)
            sent[self.serial_of[name]].append(letter)
        elif what <= 8 and names:
            events = possible(bus, name)
            if events:
                bus.go(name, dice.choice(events))
        elif names:
            bus.run(name, dice.randrange(30))

    def test_whatever_is_plugged_and_pulled(self):
        dice = random.Random(75)
        protocols = [PROVED, PROVED_PULL, STUCK_BY_PULL] + near_proved(76, 120)
        protocols = [each for each in protocols if verdict(each) is None or verdict(each)[0] == "stuck"]
        self.assertGreater(len(protocols), 10)
        moved = 0
        for protocol in protocols:
            bus, sent = Bus(protocol), {}
            bus.driver("disk")
            self.serial_of = {}
            for _ in range(120):
                self.step(dice, bus, sent)
                self.check(bus, sent)
            moved += sum(len(bus.kept(serial)[2]) for serial in bus.serials())
        self.assertGreater(moved, 100)

    def test_proved_protocols_tell_all_but_the_last(self):
        dice = random.Random(77)
        for protocol in [PROVED, PROVED_PULL] + [each for each in near_proved(78, 200) if verdict(each) is None][:10]:
            bus = Bus(protocol)
            bus.driver("disk")
            bus.plug((0,), device(1))
            sent = []
            for at in range(8):
                bus.send(1, SIGNS[at])
                sent.append(SIGNS[at])
                bus.run(1, dice.randrange(12))
                bus.pull((0,))
                bus.plug((0,), device(1))
            self.take_all(bus)
            self.assertEqual(bus.waiting(1), ())
            told = bus.told(1)
            self.assertIn(told, (tuple(sent), tuple(sent[:-1])))

    def take_all(self, bus):
        """Go by shortest rows of events from take to take, as long as letters wait."""
        while bus.waiting(1):
            many = len(bus.waiting(1))
            level, seen, row = [((), bus.copy())], [bus.link(1)], None
            while row is None:
                deeper = []
                for events, here in level:
                    for event in possible(here, 1):
                        there = here.copy()
                        there.go(1, event)
                        if len(there.waiting(1)) < many:
                            row = events + (event,)
                        elif there.link(1) not in seen:
                            seen.append(there.link(1))
                            deeper.append((events + (event,), there))
                self.assertTrue(row is not None or deeper)
                level = deeper
            do(bus, 1, *row)

    def test_facts_of_a_bus_without_letters(self):
        bus = bus_with(PROVED, "disk")
        self.assertEqual(facts(bus)[6], [(START, (), None, ())])


if __name__ == "__main__":
    unittest.main()
