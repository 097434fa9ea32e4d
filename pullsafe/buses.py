"""Buses: hubs and devices that are plugged and pulled, with their names, drivers and letters."""

from pullsafe.errors import BadValue, NoDriver, NoName, NoPort, NotNow, TooMany
from pullsafe.kinds import is_integer, is_integer_from
from pullsafe.letters import can_go, first_event, link_behind, new_link, with_letter
from pullsafe.links import PLUG, PULL
from pullsafe.protocols import plain_event, plain_protocol
from pullsafe.things import MOST_PORTS_OF_PATH, is_letter, is_path, is_thing, is_word, rows_of, serials_of

MOST_THINGS = 20
MOST_WAITING = 50
MOST_EVENTS = 1000


class Bus:
    """A bus with things at its ports, drivers, and a link for each serial."""

    def __init__(self, protocol):
        self._protocol = plain_protocol(protocol)
        # By name: (path, kind, word, serial), the serial of a hub being None.
        self._things = {}
        self._drivers = []
        # By serial: links with their letters, those of pulled devices among them.
        self._links = {}

    def _name_at(self, path):
        """Return the name of the thing at a port, or None."""
        for name, row in self._things.items():
            if row[0] == path:
                return name
        return None

    def _is_free(self, path):
        """Tell whether a path leads to a port in which there is no thing."""
        if self._name_at(path) is not None:
            return False
        if len(path) == 1:
            return True
        name = self._name_at(path[:-1])
        return name is not None and self._things[name][1] == "hub"

    def _free_name(self):
        """Return the least name that is free."""
        name = 1
        while name in self._things:
            name += 1
        return name

    def _device(self, name):
        """Return word and serial of the device with a name."""
        if not is_integer(name) or name not in self._things:
            raise NoName(name)
        _, kind, word, serial = self._things[name]
        if kind != "device":
            raise NoName(name)
        return (word, serial)

    def _link(self, name):
        """Return the link, with its letters, of the device with a name."""
        _, serial = self._device(name)
        return self._links[serial]

    def _happen(self, serial, event):
        """Let an event that can happen do so on the link of a serial."""
        self._links[serial] = link_behind(self._protocol, self._links[serial], event)

    def _connect(self, serial):
        """Begin the link of a serial, or go on with the one that was kept."""
        if serial in self._links:
            self._happen(serial, PLUG)
        else:
            self._links[serial] = new_link(self._protocol)

    def plug(self, path, thing):
        """Plug a thing in at a port, and return its name."""
        if not is_thing(thing):
            raise BadValue(1)
        if not is_path(path) or not self._is_free(tuple(path)):
            raise NoPort(path)
        rows = rows_of(thing, tuple(path))
        plugged = serials_of(list(self._things.values()))
        if any([serial in plugged for serial in serials_of(rows)]):
            raise BadValue(1)
        if len(self._things) + len(rows) > MOST_THINGS:
            raise TooMany()
        if any([len(row[0]) > MOST_PORTS_OF_PATH for row in rows]):
            raise TooMany()
        own = self._free_name()
        for row in rows:
            self._things[self._free_name()] = row
        for serial in serials_of(rows):
            self._connect(serial)
        return own

    def pull(self, path):
        """Pull the thing at a port, with all that is in it."""
        if not is_path(path) or self._name_at(tuple(path)) is None:
            raise NoPort(path)
        top = tuple(path)
        gone = [name for name, row in self._things.items() if row[0][:len(top)] == top]
        for serial in serials_of([self._things[name] for name in gone]):
            self._happen(serial, PULL)
        for name in gone:
            del self._things[name]

    def names(self):
        """Return (name, path, kind, word) of all things, ascending."""
        return tuple(sorted([(name, row[0], row[1], row[2]) for name, row in self._things.items()]))

    def at(self, name):
        """Return the path of the thing with a name."""
        if not is_integer(name) or name not in self._things:
            raise NoName(name)
        return self._things[name][0]

    def driver(self, word):
        """Add a driver for devices with a word."""
        if not is_word(word) or word in self._drivers:
            raise BadValue(0)
        self._drivers.append(word)

    def drop(self, word):
        """Take away the driver for a word."""
        if word not in self._drivers:
            raise NoDriver(word)
        self._drivers.remove(word)

    def drivers(self):
        """Return the words that have a driver, in their sequence."""
        return tuple(self._drivers)

    def bound(self):
        """Return (name, word) of all devices whose word has a driver, ascending."""
        rows = [(name, kind, word) for name, _, kind, word in self.names()]
        return tuple([(name, word) for name, kind, word in rows if kind == "device" and word in self._drivers])

    def send(self, name, letter):
        """Let a letter wait for a device."""
        word, serial = self._device(name)
        if not is_letter(letter):
            raise BadValue(1)
        if word not in self._drivers:
            raise NoDriver(word)
        if len(self._links[serial][1]) >= MOST_WAITING:
            raise TooMany()
        self._links[serial] = with_letter(self._links[serial], letter)

    def waiting(self, name):
        """Return the letters that wait for a device."""
        return self._link(name)[1]

    def told(self, name):
        """Return the letters told to a device."""
        return self._link(name)[3]

    def taken(self, name):
        """Return the letter that is taken and not told, or None."""
        state, _, last, _ = self._link(name)
        if state[5] == 1:
            return last
        return None

    def go(self, name, event):
        """Let the event of a rule happen on the link of a device."""
        _, serial = self._device(name)
        happening = plain_event(event)
        if happening is None or not can_go(self._protocol, self._links[serial], happening):
            raise NotNow(event)
        self._happen(serial, happening)

    def link(self, name):
        """Return the state of the link of a device."""
        return self._link(name)[0]

    def serials(self):
        """Return the serials that have a link, ascending."""
        return tuple(sorted(list(self._links)))

    def kept(self, serial):
        """Return (state, waiting, told) of the link of a serial."""
        if not is_integer(serial) or serial not in self._links:
            raise BadValue(0)
        state, waiting, _, told = self._links[serial]
        return (state, waiting, told)

    def run(self, name, most):
        """Let up to so many events happen on the link of a device, and return them."""
        _, serial = self._device(name)
        if not is_integer_from(most, 0, MOST_EVENTS):
            raise BadValue(1)
        events = []
        while len(events) < most:
            event = first_event(self._protocol, self._links[serial])
            if event is None:
                break
            self._happen(serial, event)
            events.append(event)
        return tuple(events)

    def copy(self):
        """Return a bus that is the same and changes independently."""
        bus = Bus(self._protocol)
        bus._things = dict(self._things)
        bus._drivers = list(self._drivers)
        bus._links = dict(self._links)
        return bus

    def __eq__(self, other):
        if not isinstance(other, Bus):
            return False
        if self._protocol != other._protocol or self._things != other._things:
            return False
        return self._drivers == other._drivers and self._links == other._links
