"""A second account of buses, by the words of the document and not by the package.

Things are a tree of nodes, links are those of tests/model.py, and letters are in lists.
"""

from pullsafe.errors import BadValue, NoDriver, NoName, NoPort, NotNow, TooMany
from tests.model import Link

SMALL = "abcdefghijklmnopqrstuvwxyz"


def is_whole(value, low, high):
    return type(value) is int and low <= value <= high


def is_text(value, signs, most):
    return type(value) is str and 1 <= len(value) <= most and set(value) <= set(signs)


def is_path(value):
    return type(value) in (list, tuple) and 1 <= len(value) <= 5 and all(is_whole(port, 0, 3) for port in value)


def tree_of(value):
    """Return the node of what has the form of a thing, otherwise None."""
    if type(value) not in (list, tuple) or len(value) != 3 or not is_text(value[1], SMALL, 8):
        return None
    if value[0] == "device" and is_whole(value[2], 0, 99):
        return {"kind": "device", "word": value[1], "serial": value[2], "parts": {}}
    if value[0] != "hub" or type(value[2]) not in (list, tuple) or len(value[2]) > 4:
        return None
    parts, last = {}, -1
    for pair in value[2]:
        if type(pair) not in (list, tuple) or len(pair) != 2 or not is_whole(pair[0], last + 1, 3):
            return None
        last = pair[0]
        parts[last] = tree_of(pair[1])
        if parts[last] is None:
            return None
    return {"kind": "hub", "word": value[1], "parts": parts}


def nodes_of(node):
    """Return a node and all in it, a hub before its parts."""
    found = [node]
    for port in sorted(node["parts"]):
        found += nodes_of(node["parts"][port])
    return found


def depth_of(node):
    return 1 + max([depth_of(part) for part in node["parts"].values()], default=0)


def is_thing(value):
    """Tell by the words of [36] whether value is a thing, as it is passed."""
    node = tree_of(value)
    if node is None:
        return False
    serials = [each["serial"] for each in nodes_of(node) if each["kind"] == "device"]
    return len(nodes_of(node)) <= 10 and sorted(set(serials)) == sorted(serials)


class SlowBus:
    """A bus as the document tells it."""

    def __init__(self, protocol):
        self.protocol = protocol
        self.root = {"kind": "hub", "word": None, "name": None, "parts": {}}
        self.words = []
        self.links = {}

    def placed(self):
        """Return (name, path, node) of all things, ascending."""
        found, fresh = [], [((), self.root)]
        while fresh:
            path, node = fresh.pop()
            if path:
                found.append((node["name"], path, node))
            fresh.extend((path + (port,), part) for port, part in node["parts"].items())
        return sorted(found, key=lambda row: row[0])

    def place(self, path):
        """Return the parts to which the last port of a path belongs, or None."""
        if not is_path(path):
            return None
        node = self.root
        for port in path[:-1]:
            node = node["parts"].get(port)
            if node is None or node["kind"] != "hub":
                return None
        return node["parts"]

    def plug(self, path, thing):
        if not is_thing(thing):
            raise BadValue(1)
        parts = self.place(path)
        if parts is None or path[-1] in parts:
            raise NoPort(path)
        node = tree_of(thing)
        here = self.placed()
        serials = [each["serial"] for _, _, each in here if each["kind"] == "device"]
        if any(each.get("serial") in serials for each in nodes_of(node) if each["kind"] == "device"):
            raise BadValue(1)
        if len(here) + len(nodes_of(node)) > 20 or len(path) - 1 + depth_of(node) > 5:
            raise TooMany()
        names = [name for name, _, _ in here]
        for each in nodes_of(node):
            each["name"] = min(set(range(1, 30)) - set(names))
            names.append(each["name"])
            if each["kind"] == "device":
                if each["serial"] in self.links:
                    self.links[each["serial"]]["link"].happen(("plug",))
                else:
                    self.links[each["serial"]] = {"link": Link(self.protocol), "waiting": [], "last": None, "told": []}
        parts[path[-1]] = node
        return node["name"]

    def pull(self, path):
        parts = self.place(path)
        if parts is None or path[-1] not in parts:
            raise NoPort(path)
        for each in nodes_of(parts.pop(path[-1])):
            if each["kind"] == "device":
                self.links[each["serial"]]["link"].happen(("pull",))

    def names(self):
        return tuple((name, path, node["kind"], node["word"]) for name, path, node in self.placed())

    def at(self, name):
        for other, path, _ in self.placed():
            if type(name) is int and other == name:
                return path
        raise NoName(name)

    def driver(self, word):
        if not is_text(word, SMALL, 8) or word in self.words:
            raise BadValue(0)
        self.words = self.words + [word]

    def drop(self, word):
        if word not in self.words:
            raise NoDriver(word)
        self.words = [other for other in self.words if other != word]

    def drivers(self):
        return tuple(self.words)

    def bound(self):
        rows = [(name, node) for name, _, node in self.placed() if node["kind"] == "device"]
        return tuple((name, node["word"]) for name, node in rows if node["word"] in self.words)

    def device(self, name):
        for other, _, node in self.placed():
            if type(name) is int and other == name and node["kind"] == "device":
                return node
        raise NoName(name)

    def own(self, name):
        return self.links[self.device(name)["serial"]]

    def send(self, name, letter):
        node = self.device(name)
        if not is_text(letter, SMALL + " ", 40):
            raise BadValue(1)
        if node["word"] not in self.words:
            raise NoDriver(node["word"])
        if len(self.own(name)["waiting"]) == 50:
            raise TooMany()
        self.own(name)["waiting"].append(letter)

    def waiting(self, name):
        return tuple(self.own(name)["waiting"])

    def told(self, name):
        return tuple(self.own(name)["told"])

    def taken(self, name):
        return self.own(name)["last"] if self.own(name)["link"].held else None

    def link(self, name):
        return self.own(name)["link"].state()

    def act(self, event):
        sides = {"host": self.protocol[0], "device": self.protocol[1]}
        return sides[event[0]][2][event[1]][3]

    def possible(self, name):
        """Return the events of rules that may happen, ascending."""
        own = self.own(name)
        events = [event for event in own["link"].events() if len(event) == 2]
        return [event for event in events if self.act(event) != "take" or own["waiting"]]

    def happen(self, name, event):
        own = self.own(name)
        own["link"].happen(event)
        if self.act(event) == "take":
            own["last"] = own["waiting"].pop(0)
        elif self.act(event) == "tell" and own["last"] is not None:
            own["told"].append(own["last"])

    def go(self, name, event):
        possible = self.possible(name)
        if type(event) not in (list, tuple) or [type(part) for part in event] != [str, int]:
            raise NotNow(event)
        if tuple(event) not in possible:
            raise NotNow(event)
        self.happen(name, tuple(event))

    def run(self, name, most):
        self.device(name)
        if not is_whole(most, 0, 1000):
            raise BadValue(1)
        events = []
        for _ in range(most):
            before = self.link(name)
            for event in self.possible(name):
                trial = Link(self.protocol, before)
                trial.happen(event)
                if trial.state() != before or self.act(event) in ("take", "tell"):
                    self.happen(name, event)
                    events.append(event)
                    break
            else:
                break
        return tuple(events)

    def serials(self):
        return tuple(sorted(self.links))

    def kept(self, serial):
        if type(serial) is not int or serial not in self.links:
            raise BadValue(0)
        own = self.links[serial]
        return (own["link"].state(), tuple(own["waiting"]), tuple(own["told"]))

    def everything(self):
        """Return all by which [44] compares buses."""
        links = tuple(self.kept(serial) + (self.links[serial]["last"],) for serial in self.serials())
        things = tuple((name, path, node["kind"], node["word"], node.get("serial")) for name, path, node in self.placed())
        return (self.protocol, things, self.drivers(), self.serials(), links)
