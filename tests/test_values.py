"""[12] over the whole program: kinds of values, lists and tuples, wrong arguments, names of arguments."""

import copy
import inspect
import unittest

from pullsafe import buses, protocols, proving, texts, webs
from pullsafe.buses import Bus
from pullsafe.errors import BadText, BadValue, NoDriver, NoName, NoPort, NotNow, PullError
from tests.bus_samples import device, hub
from tests.samples import ODD_VALUES, PROVED, TWICE, as_lists, as_tuples, mixed, raised, shown

START = (1, 0, 0, -1, -1, 0)
WEB = ((), (0,), (0, 1))
OTHER = ((), (), (0,))
HABITS = webs.habits_of(OTHER)
RUN = proving.verdict(TWICE)[1]
GROUNDS = proving.grounds(PROVED)

# Each function with the names of its arguments, and arguments as described.
FUNCTIONS = (
    (protocols.is_protocol, ("value",), (PROVED,)),
    (protocols.ready, ("protocol", "state"), (PROVED, START)),
    (protocols.after, ("protocol", "state", "event"), (PROVED, START, ("host", 0))),
    (proving.verdict, ("protocol",), (TWICE,)),
    (proving.run_holds, ("protocol", "word", "run"), (TWICE, "twice", RUN)),
    (proving.grounds, ("protocol",), (PROVED,)),
    (proving.grounds_hold, ("protocol", "value"), (PROVED, GROUNDS)),
    (webs.is_web, ("value",), (WEB,)),
    (webs.is_habits, ("value",), (HABITS,)),
    (webs.allowed, ("web", "awake", "moves"), (WEB, (0,), (("wake", 1), ("wake", 2), ("sleep", 1)))),
    (webs.lawful, ("web",), (WEB,)),
    (webs.way, ("web", "one", "other"), (WEB, (0, 1, 2), (0,))),
    (webs.orders, ("web",), (OTHER,)),
    (webs.habits_of, ("web",), (WEB,)),
    (webs.same, ("web", "habits"), (WEB, HABITS)),
    (webs.web_of, ("habits",), (HABITS,)),
    (texts.printed, ("protocol",), (TWICE,)),
    (texts.parse, ("text",), (texts.printed(TWICE),)),
)

THING = hub(device(1), None, hub(device(2, "pen")))

# Each method with the names of its arguments, and arguments that fit the bus below.
METHODS = (
    ("plug", ("path", "thing"), ((3, 1), THING)),
    ("pull", ("path",), ((0, 1),)),
    ("names", (), ()),
    ("at", ("name",), (2,)),
    ("driver", ("word",), ("mouse",)),
    ("drop", ("word",), ("disk",)),
    ("drivers", (), ()),
    ("bound", (), ()),
    ("send", ("name", "letter"), (2, "a letter")),
    ("waiting", ("name",), (2,)),
    ("told", ("name",), (2,)),
    ("taken", ("name",), (2,)),
    ("go", ("name", "event"), (2, ("host", 1))),
    ("link", ("name",), (2,)),
    ("serials", (), ()),
    ("kept", ("serial",), (50,)),
    ("run", ("name", "most"), (2, 7)),
    ("copy", (), ()),
)

# Of which class the error is that each argument of a method brings.
METHOD_ERRORS = {
    "plug": (NoPort, BadValue), "pull": (NoPort,), "at": (NoName,), "driver": (BadValue,), "drop": (NoDriver,),
    "send": (NoName, BadValue), "waiting": (NoName,), "told": (NoName,), "taken": (NoName,), "go": (NoName, NotNow),
    "link": (NoName,), "kept": (BadValue,), "run": (NoName, BadValue),
}

# What is none of any argument that is not called value or run.
ALWAYS_WRONG = (
    True, False, None, "", "No", -1, 10 ** 30, -10 ** 30, [[0]], ((0,),), [None], (True,), [False], ("host", True), "x" * 20000,
    [["deep"]] * 50, list(range(5000)), "two\nlines\n", (((((((((((((((((()),),),),),),),),),),),),),),),),),
)


def ready_bus():
    """Return a bus with hubs, devices, drivers and letters."""
    bus = Bus(PROVED)
    bus.driver("pen")
    bus.driver("disk")
    bus.plug((0,), hub(device(50), device(51, "pen")))
    bus.plug((3,), hub())
    for letter in ("a", "b", "c"):
        bus.send(2, letter)
    bus.go(2, ("host", 0))
    return bus


def spoil(value):
    """Change all lists in a value, at every level."""
    if isinstance(value, list):
        for part in value:
            spoil(part)
        value.append("spoilt")
        value.reverse()


def check_plain(case, value):
    """Check that tuples are plain ones, at every level, and that there is no list."""
    case.assertIn(type(value), (tuple, int, str, bool, type(None)))
    if type(value) is tuple:
        for part in value:
            check_plain(case, part)


def forms(value):
    return (as_tuples(value), as_lists(value), mixed(value), mixed(value, 1))


class Interface(unittest.TestCase):
    def test_functions_and_their_arguments(self):
        for function, names, _ in FUNCTIONS:
            self.assertEqual(tuple(inspect.signature(function).parameters), names, function)
            self.assertTrue(inspect.isfunction(function))

    def test_methods_and_their_arguments(self):
        for method, names, _ in METHODS:
            self.assertIn(method, vars(Bus))
            self.assertEqual(tuple(inspect.signature(vars(Bus)[method]).parameters), ("self",) + names, method)
        self.assertIn("__eq__", vars(Bus))
        self.assertEqual(tuple(inspect.signature(Bus).parameters), ("protocol",))
        self.assertEqual(Bus.__module__, "pullsafe.buses")

    def test_all_of_the_interface_is_here(self):
        listed = {
            protocols: ("is_protocol", "ready", "after"),
            proving: ("verdict", "run_holds", "grounds", "grounds_hold"),
            webs: ("is_web", "is_habits", "allowed", "lawful", "way", "orders", "habits_of", "same", "web_of"),
            texts: ("printed", "parse"),
        }
        here = {(function.__module__, function.__name__) for function, _, _ in FUNCTIONS}
        self.assertEqual(here, {(module.__name__, name) for module, names in listed.items() for name in names})
        self.assertTrue(inspect.isclass(buses.Bus))

    def test_the_document_s_example(self):
        host = (2, 0, ((0, "tick", 1, "take"), (1, "got 0", 0, "none"), (1, "tick", 1, "send 0")))
        told = (2, 0, ((0, "got 0", 1, "tell"), (1, "tick", 0, "send 0")))
        self.assertEqual(proving.verdict((host, told)), (
            "twice", (("host", 0), ("host", 2), ("device", 0), ("device", 1), ("host", 2), ("device", 0))))
        web = ((), (0,), (0,))
        self.assertEqual((webs.orders(web), webs.way(web, (0, 1), (0, 2))), (2, (("sleep", 1), ("wake", 2))))
        self.assertIs(webs.same(web, webs.habits_of(web)) is None, True)


class Functions(unittest.TestCase):
    def test_lists_and_tuples_are_the_same(self):
        for function, names, parts in FUNCTIONS:
            told = function(*parts)
            check_plain(self, told)
            for form in range(4):
                row = [forms(part)[form] for part in parts]
                before = copy.deepcopy(row)
                self.assertEqual(shown(function(*row)), shown(told), function)
                self.assertEqual(shown(function(**dict(zip(names, row)))), shown(told))
                self.assertEqual(shown(function(**dict(list(zip(names, row))[::-1]))), shown(told))
                self.assertEqual(shown(row), shown(before))

    def test_later_changes_have_no_effect(self):
        for function, _, parts in FUNCTIONS:
            row = [as_lists(part) for part in parts]
            told = function(*row)
            before = shown(told)
            for part in row:
                spoil(part)
            self.assertEqual(shown(told), before)
            self.assertEqual(shown(function(*[as_lists(part) for part in parts])), before)

    def test_a_wrong_value_at_each_argument(self):
        for function, names, parts in FUNCTIONS:
            for at, name in enumerate(names):
                if name in ("value", "run"):
                    continue
                for odd in ALWAYS_WRONG + ODD_VALUES[:9]:
                    row = list(parts)
                    row[at] = odd
                    error = raised(function, *row)
                    self.assertIs(type(error), BadText if function is texts.parse else BadValue, (function, name, odd))
                    self.assertEqual(error.at, at)
                    self.assertIs(type(error.at), int)

    def test_the_first_wrong_argument_is_told(self):
        for function, names, parts in FUNCTIONS:
            rows = [at for at, name in enumerate(names) if name not in ("value", "run")]
            for first in rows:
                for odd in (None, True, 10 ** 30, [[0]]):
                    row = [odd if at >= first else part for at, part in enumerate(parts)]
                    self.assertEqual(raised(function, *row).at, 0 if function is texts.parse else first)

    def test_any_value_or_run(self):
        for odd in ALWAYS_WRONG + ODD_VALUES:
            self.assertIs(protocols.is_protocol(odd), False)
            self.assertIs(webs.is_web(odd), shown(odd) in ("((),)", "[[]]"), odd)
            self.assertIs(webs.is_habits(odd), False)
            self.assertIs(proving.run_holds(TWICE, "twice", odd), False)
            self.assertIsInstance(raised(proving.grounds_hold, PROVED, odd), PullError)

    def test_the_same_call_again(self):
        for function, _, parts in FUNCTIONS:
            self.assertEqual(shown(function(*parts)), shown(function(*copy.deepcopy(parts))))


class Methods(unittest.TestCase):
    def told(self, bus, method, row):
        value = getattr(bus, method)(*row)
        if method == "copy":
            self.assertTrue(value == bus)
            return "a copy"
        check_plain(self, value)
        return shown(value)

    def test_lists_and_tuples_are_the_same(self):
        for method, names, parts in METHODS:
            expected = ready_bus()
            told = self.told(expected, method, parts)
            for form in range(4):
                row = [forms(part)[form] for part in parts]
                before = copy.deepcopy(row)
                bus = ready_bus()
                self.assertEqual(self.told(bus, method, row), told)
                self.assertEqual(shown(row), shown(before))
                self.assertTrue(bus == expected)
                named = ready_bus()
                value = getattr(named, method)(**dict(list(zip(names, row))[::-1]))
                self.assertTrue(method == "copy" or shown(value) == told)
                self.assertTrue(named == expected)

    def test_later_changes_have_no_effect(self):
        for method, _, parts in METHODS:
            expected, bus = ready_bus(), ready_bus()
            told = self.told(expected, method, parts)
            row = [as_lists(part) for part in parts]
            self.assertEqual(self.told(bus, method, row), told)
            for part in row:
                spoil(part)
            self.assertTrue(bus == expected)
        protocol = as_lists(PROVED)
        bus = Bus(protocol)
        spoil(protocol)
        self.assertTrue(bus == Bus(PROVED))

    def test_a_wrong_value_at_each_argument(self):
        for method, names, parts in METHODS:
            for at in range(len(names)):
                kind = METHOD_ERRORS[method][at]
                for odd in ALWAYS_WRONG:
                    bus = ready_bus()
                    row = list(parts)
                    row[at] = odd
                    error = raised(getattr(bus, method), *row)
                    self.assertIs(type(error), kind, (method, names[at], odd))
                    if kind is BadValue:
                        self.assertEqual(error.at, at)
                        self.assertIs(type(error.at), int)
                    else:
                        self.assertIs(list(vars(error).values())[0], odd)
                    self.assertTrue(bus == ready_bus())

    def test_all_arguments_wrong(self):
        # plug asks for its thing before its path; elsewhere the first argument is asked first.
        for method, names, _ in METHODS:
            for odd in ALWAYS_WRONG:
                if names:
                    error = raised(getattr(ready_bus(), method), *[odd] * len(names))
                    self.assertIs(type(error), BadValue if method == "plug" else METHOD_ERRORS[method][0])

    def test_what_was_returned_stays(self):
        bus = ready_bus()
        rows = [bus.names(), bus.drivers(), bus.bound(), bus.waiting(2), bus.told(2), bus.serials(), bus.kept(50), bus.link(2)]
        before = shown(rows)
        bus.send(2, "more")
        bus.run(2, 50)
        bus.driver("mouse")
        bus.drop("pen")
        bus.pull((0,))
        bus.plug((1,), THING)
        self.assertEqual(shown(rows), before)


if __name__ == "__main__":
    unittest.main()
