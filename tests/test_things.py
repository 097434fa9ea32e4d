"""[9], [36] to [39]: things, paths, plug and pull, names and drivers."""

import copy
import unittest

from pullsafe.buses import Bus
from pullsafe.errors import BadValue, NoDriver, NoName, NoPort, TooMany
from pullsafe.protocols import is_protocol
from pullsafe.things import is_path, is_thing
from tests import bus_model
from tests.bus_samples import chain, device, facts, hub, refused
from tests.samples import (
    ODD_VALUES, PROVED, TWICE, as_lists, as_tuples, changed, check_error, check_plain, mixed, shown,
)

DEEP = hub(device(1), None, hub(hub(device(2, "mouse"), word="inner"), None, device(3), word="mid"), device(4), word="top")

ODD_WORDS = ODD_VALUES[:3] + (
    "", "abcdefghi", "Disk", "disk1", "disk ", " disk", "di sk", "disk\n", "a.b", "x" * 20000, 0, 1, -1, (), [], ["disk"],
    ("disk",), ["a", "b"], [["a"]], ((),), 10 ** 30,
)

BAD_PATHS = ODD_VALUES + (
    (4,), (-1,), (0, 4), (4, 0), (True,), (False,), (0, True), ("0",), "0", "00", (None,), (0, 0, 0, 0, 0, 0), ((0,),),
    (10 ** 30,), (0,) * 5000, 0, 1,
)


def bus_with(*things, protocol=PROVED):
    """Return a bus with things at the ports of the root."""
    bus = Bus(protocol)
    for port, thing in enumerate(things):
        if thing is not None:
            bus.plug((port,), thing)
    return bus


class NewBus(unittest.TestCase):
    def test_is_empty(self):
        bus = Bus(TWICE)
        self.assertEqual(facts(bus), ((), [], (), (), (), [], []))
        self.assertTrue(Bus(protocol=as_lists(TWICE)) == bus)

    def test_what_is_no_protocol(self):
        for value in changed(TWICE):
            if not is_protocol(value):
                check_error(self, BadValue, 0, Bus, value)
        for value in ODD_VALUES + (TWICE[:1], TWICE + TWICE[:1], (TWICE[0], TWICE[0]), (TWICE[1], TWICE[1])):
            check_error(self, BadValue, 0, Bus, value)


class Things(unittest.TestCase):
    def check(self, value, expected):
        self.assertIs(bus_model.is_thing(value), expected, value)
        for form in (as_tuples(value), as_lists(value), mixed(value), mixed(value, 1)):
            before = copy.deepcopy(form)
            self.assertIs(is_thing(form), expected, form)
            bus = Bus(TWICE)
            if not expected:
                refused(self, BadValue, 1, bus, "plug", (0,), form)
                refused(self, BadValue, 1, bus, "plug", None, form)
                refused(self, BadValue, 1, bus, "plug", (0, 0), form)
            elif bus_model.depth_of(bus_model.tree_of(value)) <= 5:
                self.assertEqual(bus.plug((0,), form), 1)
            else:
                refused(self, TooMany, None, bus, "plug", (0,), form)
            self.assertEqual(shown(form), shown(before))

    def test_samples(self):
        for thing in (device(0), device(99), hub(), DEEP, hub(hub(), hub(), hub(), hub()), chain(5), ("device", "a", 7)):
            self.check(thing, True)

    def test_words(self):
        for word in ("a", "z", "abcdefgh", "hub", "device"):
            self.check(("device", word, 0), True)
            self.check(("hub", word, ()), True)
        for word in ODD_WORDS + ("\u00e4", "a\u0430", "\u00df"):
            self.check(("device", word, 0), False)
            self.check(("hub", word, ()), False)
            self.check(hub(("device", word, 0)), False)

    def test_serials(self):
        for serial in (0, 1, 50, 98, 99):
            self.check(device(serial), True)
        for serial in (-1, 100, 101, True, False, None, "1", (), [], (1,), 10 ** 30, -10 ** 30):
            self.check(device(serial), False)
            self.check(hub(hub(device(serial))), False)

    def test_ports(self):
        for rows in ((), (0,), (3,), (0, 3), (1, 2), (0, 1, 2, 3)):
            self.check(("hub", "h", tuple((port, hub()) for port in rows)), True)
        for rows in ((4,), (-1,), (1, 0), (0, 0), (0, 1, 1), (3, 2), (0, 1, 2, 3, 3), (0, 1, 2, 3, 4), (True,), (False,),
                     (0, True), ("0",), (None,), ((0,),), (10 ** 30,)):
            self.check(("hub", "h", tuple((port, hub()) for port in rows)), False)

    def test_kinds_and_forms(self):
        for bad in (
            ("hub", "h"), ("hub", "h", (), ()), ("device", "d"), ("device", "d", 0, 0), ("Hub", "h", ()), ("", "h", ()),
            (None, "h", ()), (["hub"], "h", ()), ("hub", "h", 0), ("hub", "h", None), ("hub", "h", ""), ("hub", "h", "ab"),
            ("device", "d", ()), ("root", "h", ()), "hub", "abc", (), (0, 1, 2), ("hub", "h", ((0,),)), (True, "h", ()),
            ("hub", "h", ((0, hub(), hub()),)), ("hub", "h", (hub(),)), ("hub", "h", (0, hub())), ("hub", "h", (None,)),
            ("hub", "h", ((0, ()),)), ("hub", "h", ((0, None),)), ("hub", "h", ("ab",)), ("hub", "h", ((hub(), 0),)),
        ):
            self.check(bad, False)
            self.check(hub(hub(), bad), False)

    def test_odd_values(self):
        for odd in ODD_VALUES + ("x" * 20000, list(range(5000))):
            self.check(odd, False)

    def test_changed_at_one_place(self):
        odd_values = ODD_VALUES + (0, 1, 2, 3, 4, 99, 100, "device", "hub", device(3), hub())
        taken = refusals = 0
        bus = Bus(TWICE)
        for value in changed(DEEP, odd_values):
            expected = bus_model.is_thing(value)
            taken += expected
            refusals += not expected
            self.assertIs(is_thing(value), expected, value)
            if expected:
                self.assertEqual(bus.plug((1,), value), 1)
                bus.pull((1,))
            else:
                check_error(self, BadValue, 1, bus.plug, (1,), value)
        self.assertGreater(taken, 30)
        self.assertGreater(refusals, 300)

    def test_ten_things_in_one(self):
        for many in range(7, 14):
            flat = hub(*[hub(*[device(4 * at + port) for port in range(4) if 4 * at + port < many - 4]) for at in range(3)])
            self.check(flat, many <= 10)
        for many in range(1, 13):
            self.check(chain(many), many <= 10)

    def test_the_same_serial_twice_in_a_thing(self):
        self.check(hub(device(5), device(6)), True)
        self.check(hub(device(5), device(5)), False)
        self.check(hub(device(5), device(5, "mouse")), False)
        self.check(hub(hub(hub(device(5))), None, device(5)), False)
        self.check(hub(device(0), hub(device(1), device(0))), False)


class Paths(unittest.TestCase):
    def test_is_path(self):
        for path in ((0,), (3,), (0, 1, 2, 3), (3, 3, 3, 3, 3), [0], [1, 2]):
            self.assertIs(is_path(path), True)
        for path in BAD_PATHS:
            self.assertIs(is_path(path), shown(path) == "(0,)", path)

    def test_one_to_five_ports(self):
        bus = Bus(TWICE)
        for many in range(1, 6):
            self.assertEqual(bus.plug((2,) * many, hub()), many)
        self.assertEqual([row[1] for row in bus.names()], [(2,) * many for many in range(1, 6)])
        for path in ((2,) * 6, [2] * 6, (2,) * 7):
            refused(self, NoPort, path, bus, "plug", path, hub())
            refused(self, NoPort, path, bus, "plug", path, device(1))
            refused(self, NoPort, path, bus, "pull", path)

    def test_what_is_no_path(self):
        bus = bus_with(DEEP)
        for path in BAD_PATHS:
            if path != (0,):
                refused(self, NoPort, path, bus, "plug", path, hub())
                refused(self, NoPort, path, bus, "pull", path)
        for path in ((False,), [False]):
            refused(self, NoPort, path, bus, "pull", path)

    def test_the_very_thing_is_kept(self):
        bus = Bus(TWICE)
        path = [0, [1]]
        with self.assertRaises(NoPort) as held:
            bus.plug(path=path, thing=hub())
        self.assertIs(held.exception.path, path)
        path = [0, 1]
        with self.assertRaises(NoPort) as held:
            bus.pull(path=path)
        self.assertIs(held.exception.path, path)


class Plug(unittest.TestCase):
    def test_names_of_a_thing_with_parts(self):
        bus = Bus(TWICE)
        self.assertEqual(bus.plug((1,), DEEP), 1)
        self.assertEqual(bus.names(), (
            (1, (1,), "hub", "top"), (2, (1, 0), "device", "disk"), (3, (1, 2), "hub", "mid"),
            (4, (1, 2, 0), "hub", "inner"), (5, (1, 2, 0, 0), "device", "mouse"), (6, (1, 2, 2), "device", "disk"),
            (7, (1, 3), "device", "disk"),
        ))
        check_plain(self, bus.names())
        self.assertEqual([bus.at(name) for name in range(1, 8)], [row[1] for row in bus.names()])
        self.assertEqual(bus.serials(), (1, 2, 3, 4))

    def test_lists_and_names(self):
        bus, other = Bus(TWICE), Bus(TWICE)
        path, thing = [1], as_lists(DEEP)
        self.assertEqual(bus.plug(thing=thing, path=path), other.plug((1,), DEEP))
        path.append(0)
        thing[2][0][1][2] = 77
        thing[2][1][1][2].clear()
        thing[2].pop()
        thing[1] = "other"
        self.assertTrue(bus == other)
        self.assertEqual(facts(bus), facts(other))
        self.assertIs(bus.pull(path=[1]), None)
        self.assertEqual(bus.names(), ())

    def test_ports_of_the_root(self):
        bus = bus_with(hub(), device(1), hub(), device(2))
        self.assertEqual([row[:2] for row in bus.names()], [(1, (0,)), (2, (1,)), (3, (2,)), (4, (3,))])
        for port in range(4):
            path = (port,)
            refused(self, NoPort, path, bus, "plug", path, hub())

    def test_every_hub_has_four_ports(self):
        bus = bus_with(hub(None, hub()))
        for path in ((0, 0), (0, 2), (0, 3), (0, 1, 0), (0, 1, 1), (0, 1, 2), (0, 1, 3)):
            bus.plug(path, device(10 * len(path) + path[-1]))
        for path in ((0,), (0, 0), (0, 1), (0, 1, 3)):
            refused(self, NoPort, path, bus, "plug", path, hub())

    def test_through_what_is_no_hub(self):
        bus = bus_with(device(1), hub(device(2)))
        for path in ((0, 0), (0, 0, 0), (1, 0, 0), (1, 1, 0), (2, 0), (3, 0, 0, 0, 0)):
            refused(self, NoPort, path, bus, "plug", path, device(3))
            refused(self, NoPort, path, bus, "pull", path)

    def test_least_free_names_behind_pulls(self):
        bus = bus_with(device(1), hub(device(2), device(3)), device(4))
        self.assertEqual([row[0] for row in bus.names()], [1, 2, 3, 4, 5])
        bus.pull((1,))
        bus.pull((0,))
        self.assertEqual(bus.names(), ((5, (2,), "device", "disk"),))
        self.assertEqual(bus.plug((3,), hub(device(6))), 1)
        self.assertEqual(bus.plug((0,), device(7)), 3)
        bus.pull((3, 0))
        self.assertEqual(bus.plug((1,), hub(hub(device(1)), device(2), device(9))), 2)
        self.assertEqual([row[:2] for row in bus.names()], [
            (1, (3,)), (2, (1,)), (3, (0,)), (4, (1, 0)), (5, (2,)), (6, (1, 0, 0)), (7, (1, 1)), (8, (1, 2)),
        ])

    def test_serial_on_the_bus(self):
        bus = bus_with(hub(device(5)), device(6))
        for thing in (device(5), device(6), device(5, "mouse"), hub(hub(device(6))), hub(device(7), device(5))):
            refused(self, BadValue, 1, bus, "plug", (2,), thing)
            refused(self, BadValue, 1, bus, "plug", (0, 1), as_lists(thing))
        bus.pull((0, 0))
        self.assertEqual(bus.plug((2,), device(5, "mouse")), 2)
        refused(self, BadValue, 1, bus, "plug", (3,), device(5))
        bus.pull((2,))
        bus.plug((3,), hub(device(5)))

    def test_twenty_things(self):
        bus = bus_with(*[hub(*[device(4 * at + port) for port in range(4)]) for at in range(3)])
        fifteen = bus.copy()
        self.assertEqual(bus.plug((3,), hub(*[device(at) for at in range(12, 16)])), 16)
        self.assertEqual(len(bus.names()), 20)
        bus.pull((3, 3))
        refused(self, TooMany, None, bus, "plug", (3, 3), hub(device(50)))
        self.assertEqual(bus.plug((3, 3), device(50)), 20)
        # At 15 things: five more fit, six do not.
        refused(self, TooMany, None, fifteen, "plug", (3,), hub(hub(device(20), device(21)), device(22), device(23)))
        refused(self, TooMany, None, fifteen, "plug", (3,), hub(*[hub(device(at)) for at in range(20, 24)]))
        self.assertEqual(fifteen.plug((3,), hub(hub(device(20), device(21)), device(22))), 16)

    def test_twenty_one_things_at_a_free_port(self):
        bus = bus_with(*[hub(*[device(4 * at + port) for port in range(4)]) for at in range(3)], hub(hub(), hub(), hub(), None))
        self.assertEqual(len(bus.names()), 19)
        self.assertEqual(bus.plug((3, 0, 0), hub()), 20)
        for path in ((3, 3), (3, 0, 1), (3, 1, 3)):
            refused(self, TooMany, None, bus, "plug", path, hub())
            refused(self, TooMany, None, bus, "plug", path, device(60))

    def test_five_ports_from_the_root(self):
        for depth in range(1, 11):
            for length in range(1, 6):
                bus = Bus(TWICE)
                for many in range(1, length):
                    bus.plug((1,) * many, hub())
                path = (1,) * length
                if length + depth - 1 <= 5:
                    self.assertEqual(bus.plug(path, chain(depth)), length)
                    self.assertEqual(len(bus.names()), length + depth - 1)
                else:
                    refused(self, TooMany, None, bus, "plug", path, chain(depth))

    def test_deepest_part_counts_wherever_it_is(self):
        thing = hub(hub(), hub(hub(), None, hub(None, device(1))), device(2))
        bus = bus_with(hub(hub()))
        refused(self, TooMany, None, bus, "plug", (0, 0, 0), thing)
        self.assertEqual(bus.plug((0, 3), thing), 3)
        self.assertEqual(bus.at(8), (0, 3, 1, 2, 1))

    def test_sequence_of_errors(self):
        full = bus_with(*[hub(*[device(4 * at + port) for port in range(4)]) for at in range(4)])
        taken = (0, 0)
        bad = ("hub", "h", ((0, device(100)),))
        # What is no thing comes first, then the port, then the serial on the bus, then the numbers.
        refused(self, BadValue, 1, full, "plug", (9,), bad)
        refused(self, BadValue, 1, full, "plug", taken, hub(device(1), device(1)))
        refused(self, BadValue, 1, full, "plug", taken, chain(11))
        refused(self, NoPort, taken, full, "plug", taken, device(0))
        refused(self, NoPort, taken, full, "plug", taken, chain(10))
        path = (0, 0, 0)
        refused(self, NoPort, path, full, "plug", path, device(0))
        bus = bus_with(*[hub(*[device(4 * at + port) for port in range(4)]) for at in range(3)], chain(4))
        self.assertEqual(len(bus.names()), 19)
        refused(self, BadValue, 1, bus, "plug", (3, 1), hub(device(0)))
        refused(self, BadValue, 1, bus, "plug", (3, 1), hub(hub(hub(hub(device(0))))))
        refused(self, TooMany, None, bus, "plug", (3, 1), hub(device(70)))
        refused(self, TooMany, None, bus, "plug", (3, 0, 0, 0, 0), hub(device(70)))
        self.assertEqual(bus.plug((3, 1), device(70)), 20)


class Pull(unittest.TestCase):
    def test_with_all_that_is_in_it(self):
        bus = bus_with(device(9), DEEP)
        bus.pull((1, 2))
        self.assertEqual(bus.names(), (
            (1, (0,), "device", "disk"), (2, (1,), "hub", "top"), (3, (1, 0), "device", "disk"),
            (8, (1, 3), "device", "disk"),
        ))
        bus.pull((1,))
        self.assertEqual(bus.names(), ((1, (0,), "device", "disk"),))
        self.assertEqual(bus.serials(), (1, 2, 3, 4, 9))

    def test_ports_without_a_thing(self):
        bus = bus_with(device(9), DEEP)
        for path in ((2,), (3,), (1, 1), (1, 2, 1), (1, 2, 0, 1), (0, 0), (1, 0, 0), (2, 2), [1, 1], (1, 2, 0, 0, 0)):
            refused(self, NoPort, path, bus, "pull", path)
        bus.pull([1])
        for path in ((1,), (1, 0), (1, 2, 0, 0)):
            refused(self, NoPort, path, bus, "pull", path)

    def test_a_sibling_with_a_like_path_stays(self):
        bus = bus_with(hub(hub(device(1)), hub(device(2))), hub(hub(device(3))))
        bus.pull((0, 0))
        self.assertEqual([row[1] for row in bus.names()], [(0,), (0, 1), (0, 1, 0), (1,), (1, 0), (1, 0, 0)])

    def test_plug_and_then_pull_gives_back(self):
        bus = bus_with(device(9), DEEP)
        bus.driver("disk")
        bus.pull((1, 2, 0))
        for path, thing in (((2,), hub(device(50), device(51, "mouse"))), ((1, 1), device(52)), ((1, 2, 0), chain(3))):
            before = facts(bus)
            bus.plug(path, thing)
            self.assertNotEqual(facts(bus)[0], before[0])
            bus.pull(path)
            self.assertEqual(facts(bus)[:4], before[:4])


class Names(unittest.TestCase):
    def test_at(self):
        bus = bus_with(hub(None, device(1)))
        self.assertEqual(bus.at(1), (0,))
        self.assertEqual(bus.at(name=2), (0, 1))
        check_plain(self, bus.at(2))
        for name in ODD_VALUES + (0, 3, "1", [1], (1,)):
            refused(self, NoName, name, bus, "at", name)
        bus.pull((0,))
        refused(self, NoName, 1, bus, "at", 1)

    def test_ascending_behind_pulls(self):
        bus = bus_with(device(1), device(2), device(3))
        bus.pull((0,))
        bus.plug((3,), device(4))
        self.assertEqual([row[:2] for row in bus.names()], [(1, (3,)), (2, (1,)), (3, (2,))])


class Drivers(unittest.TestCase):
    def test_in_their_sequence(self):
        bus = Bus(TWICE)
        for word in ("mouse", "disk", "a", "zzzzzzzz"):
            self.assertIs(bus.driver(word), None)
        self.assertEqual(bus.drivers(), ("mouse", "disk", "a", "zzzzzzzz"))
        self.assertIs(bus.drop("disk"), None)
        self.assertEqual(bus.drivers(), ("mouse", "a", "zzzzzzzz"))
        bus.driver(word="disk")
        bus.drop(word="mouse")
        self.assertEqual(bus.drivers(), ("a", "zzzzzzzz", "disk"))
        check_plain(self, bus.drivers())

    def test_words_that_are_none_or_have_one(self):
        bus = Bus(TWICE)
        bus.driver("disk")
        for word in ODD_WORDS + ("disk", "\u00e4"):
            refused(self, BadValue, 0, bus, "driver", word)
        bus.drop("disk")
        bus.driver("disk")

    def test_drop_of_a_word_that_has_none(self):
        bus = Bus(TWICE)
        bus.driver("disk")
        for word in ODD_WORDS + ("dis", "mouse", "a"):
            refused(self, NoDriver, word, bus, "drop", word)
        bus.drop("disk")
        refused(self, NoDriver, "disk", bus, "drop", "disk")

    def test_bound(self):
        bus = bus_with(device(1), hub(device(2, "mouse"), hub(word="disk"), device(3)), device(4, "pen"))
        self.assertEqual(bus.bound(), ())
        bus.driver("mouse")
        self.assertEqual(bus.bound(), ((3, "mouse"),))
        bus.driver("disk")
        bus.driver("hub")
        self.assertEqual(bus.bound(), ((1, "disk"), (3, "mouse"), (5, "disk")))
        check_plain(self, bus.bound())
        bus.pull((1,))
        self.assertEqual(bus.bound(), ((1, "disk"),))
        bus.plug((1,), device(7, "mouse"))
        self.assertEqual(bus.bound(), ((1, "disk"), (2, "mouse")))
        bus.drop("disk")
        self.assertEqual(bus.bound(), ((2, "mouse"),))


if __name__ == "__main__":
    unittest.main()
