"""Things, and helpers for tests of buses."""

from tests.samples import raised


def device(serial, word="disk"):
    return ("device", word, serial)


def hub(*parts, word="hub"):
    """Return a hub with parts at the ports from 0 on; None leaves a port free."""
    return ("hub", word, tuple((port, part) for port, part in enumerate(parts) if part is not None))


def chain(many, word="hub"):
    """Return as many hubs, each at port 0 of the one before."""
    thing = hub(word=word)
    for _ in range(many - 1):
        thing = hub(thing, word=word)
    return thing


def facts(bus):
    """Return all answers of a bus that need no change of it."""
    names = [row[0] for row in bus.names()]
    plugged = [row[0] for row in bus.names() if row[2] == "device"]
    return (
        bus.names(), [bus.at(name) for name in names], bus.drivers(), bus.bound(), bus.serials(),
        [bus.kept(serial) for serial in bus.serials()],
        [(bus.link(name), bus.waiting(name), bus.taken(name), bus.told(name)) for name in plugged],
    )


def refused(case, kind, kept, bus, method, *parts, **named):
    """Check that a call raises just this error, which keeps this very thing, and changes nothing.

    For the errors that keep a position or a word, kept is compared; TooMany keeps nothing.
    """
    before, told = bus.copy(), facts(bus)
    error = raised(getattr(bus, method), *parts, **named)
    case.assertIs(type(error), kind, (method, parts))
    values = list(vars(error).values())
    if kept is None and not values:
        pass
    elif isinstance(kept, (int, str)) and not isinstance(kept, bool):
        case.assertEqual(values, [kept])
        case.assertIs(type(values[0]), type(kept))
    else:
        case.assertEqual(len(values), 1)
        case.assertIs(values[0], kept)
    case.assertTrue(bus == before)
    case.assertEqual(facts(bus), told)
