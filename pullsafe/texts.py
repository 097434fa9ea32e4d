"""Texts of protocols: printed and parsed."""

from pullsafe.errors import BadText
from pullsafe.protocols import is_side, plain_protocol

HEADS = ("host", "device")
BARRED = ("tell", "take")
NUMBERS = {"0": 0, "1": 1, "2": 2, "3": 3, "4": 4, "5": 5}


def side_lines(head, side):
    """Return the lines of a side."""
    states, start, rules = side
    lines = [f"{head} {states} {start}"]
    lines.extend([f"rule {state} {when} {then} {act}" for state, when, then, act in rules])
    return lines


def printed(protocol):
    """Return the text of a protocol."""
    host, device = plain_protocol(protocol)
    lines = side_lines("host", host) + side_lines("device", device)
    return "".join([line + "\n" for line in lines])


def rule_of(words):
    """Return what the words of a line tell as a rule, or None; it may still be no rule."""
    behind_when = 3
    if words[2:3] == ["got"]:
        behind_when = 4
    if len(words) <= behind_when:
        return None
    when = " ".join(words[2:behind_when])
    act = " ".join(words[behind_when + 1:])
    return (NUMBERS.get(words[1]), when, NUMBERS.get(words[behind_when]), act)


def with_rule(sides, words):
    """Return the sides with one more rule of the last, or None if it does not fit there."""
    if not sides:
        return None
    states, start, rules = sides[-1]
    side = (states, start, rules + (rule_of(words),))
    if not is_side(side, BARRED[len(sides) - 1]):
        return None
    return sides[:-1] + (side,)


def with_head(sides, words):
    """Return the sides with one more, or None if it does not fit there."""
    if len(sides) == len(HEADS) or len(words) != 3 or words[0] != HEADS[len(sides)]:
        return None
    side = (NUMBERS.get(words[1]), NUMBERS.get(words[2]), ())
    if not is_side(side, BARRED[len(sides)]):
        return None
    return sides + (side,)


def with_line(sides, line):
    """Return the sides with what a line adds to them, or None if it does not fit there."""
    # Split at single spaces, so that a space too many leaves an empty word.
    words = line.split(" ")
    if words[0] == "rule":
        return with_rule(sides, words)
    return with_head(sides, words)


def lines_of(text):
    """Return the lines of a text."""
    lines = text.split("\n")
    if lines[-1] == "":
        return lines[:-1]
    return lines


def parse(text):
    """Return the protocol of a text, or raise BadText."""
    if not isinstance(text, str):
        raise BadText(0)
    lines = lines_of(text)
    sides = ()
    for at, line in enumerate(lines):
        sides = with_line(sides, line)
        if sides is None:
            raise BadText(at)
    if len(sides) < len(HEADS):
        raise BadText(len(lines))
    return sides
