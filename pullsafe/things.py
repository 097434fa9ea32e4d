"""Words, letters, paths and things: what is passed to a bus."""

from pullsafe.kinds import is_integer_from, is_row, is_sequence

SIGNS = "abcdefghijklmnopqrstuvwxyz"

MOST_SIGNS_OF_WORD = 8
MOST_SIGNS_OF_LETTER = 40
MOST_SERIAL = 99
MOST_PORT = 3
MOST_PORTS_OF_PATH = 5
MOST_THINGS_IN_ONE = 10


def is_text_of(value, signs, most):
    """Tell whether value is a string of 1 to most of the signs."""
    if not isinstance(value, str) or len(value) < 1 or len(value) > most:
        return False
    return all([sign in signs for sign in value])


def is_word(value):
    """Tell whether value is a word."""
    return is_text_of(value, SIGNS, MOST_SIGNS_OF_WORD)


def is_letter(value):
    """Tell whether value is a letter that can be sent."""
    return is_text_of(value, SIGNS + " ", MOST_SIGNS_OF_LETTER)


def is_port(value):
    """Tell whether value is a port."""
    return is_integer_from(value, 0, MOST_PORT)


def is_path(value):
    """Tell whether value is a path."""
    if not is_sequence(value) or len(value) < 1 or len(value) > MOST_PORTS_OF_PATH:
        return False
    return all([is_port(port) for port in value])


def is_parts(value):
    """Tell whether value has the form of the parts of a hub."""
    if not is_sequence(value) or not all([is_row(pair, 2) and is_port(pair[0]) for pair in value]):
        return False
    ports = [pair[0] for pair in value]
    if not all([low < high for low, high in zip(ports, ports[1:])]):
        return False
    return all([has_form(pair[1]) for pair in value])


def has_form(value):
    """Tell whether value has the form of a thing, whatever the number of things and their serials."""
    if not is_row(value, 3) or not is_word(value[1]):
        return False
    if value[0] == "device":
        return is_integer_from(value[2], 0, MOST_SERIAL)
    return value[0] == "hub" and is_parts(value[2])


def rows_of(thing, path):
    """Return (path, kind, word, serial) of a thing at a path and of all in it, in the order of naming.

    The serial of a hub is None.
    """
    kind, word, rest = thing
    if kind == "device":
        return [(path, kind, word, rest)]
    rows = [(path, kind, word, None)]
    for port, part in rest:
        rows.extend(rows_of(part, path + (port,)))
    return rows


def serials_of(rows):
    """Return the serials of the devices among such rows."""
    return [row[3] for row in rows if row[3] is not None]


def is_thing(value):
    """Tell whether value is a thing."""
    if not has_form(value):
        return False
    rows = rows_of(value, ())
    serials = serials_of(rows)
    return len(rows) <= MOST_THINGS_IN_ONE and len(set(serials)) == len(serials)
