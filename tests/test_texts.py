"""[11], [45], [46]: the texts of protocols."""

import copy
import random
import re
import unittest

from pullsafe.errors import BadText, BadValue
from pullsafe.protocols import is_protocol
from pullsafe.texts import parse, printed
from tests.samples import (
    ODD_VALUES, PROVED, PROVED_PULL, SAMPLES, TWICE, as_lists, changed, check_error, mixed, raised, random_protocols,
    shown,
)

TWICE_TEXT = """\
host 2 0
rule 0 tick 1 take
rule 1 got 0 0 none
rule 1 tick 1 send 0
device 2 0
rule 0 got 0 1 tell
rule 1 tick 0 send 0
"""

RULE = re.compile("rule ([0-4]) (tick|pull|got [0-3]) ([0-4]) (none|send [0-3]|take|tell)")
HEAD = re.compile("(host|device) ([1-5]) ([0-4])")


def rules(many):
    """Return the lines of as many different rules over five states."""
    return ["rule %d tick %d none" % (at // 5, at % 5) for at in range(many)]


def text_of(lines):
    return "".join(line + "\n" for line in lines)


def fault(text):
    """Tell by the words of [46] at which line a text is wrong, or None."""
    if not isinstance(text, str):
        return 0
    lines = text.split("\n")
    lines = lines[:-1] if lines[-1] == "" else lines
    side, states, seen, pulled = -1, 0, [], []
    for at, line in enumerate(lines):
        head, rule = HEAD.fullmatch(line), RULE.fullmatch(line)
        if head and side < 1 and head[1] == ("host", "device")[side + 1] and head[3] < head[2]:
            side, states, seen, pulled = side + 1, int(head[2]), [], []
        elif rule and side >= 0 and len(seen) < 12 and line not in seen:
            state, when, then, act = rule.groups()
            if int(state) >= states or int(then) >= states or act == ("tell", "take")[side]:
                return at
            if when == "pull" and (act != "none" or state in pulled):
                return at
            pulled.extend([state] if when == "pull" else [])
            seen.append(line)
        else:
            return at
    return None if side == 1 else len(lines)


class Printed(unittest.TestCase):
    def test_the_example(self):
        self.assertEqual(printed(TWICE), TWICE_TEXT)

    def test_without_rules(self):
        self.assertEqual(printed(((1, 0, ()), (5, 4, ()))), "host 1 0\ndevice 5 4\n")

    def test_each_when_and_act(self):
        whens, acts = ("tick", "got 0", "got 1", "got 2", "got 3"), ("none", "send 0", "send 1", "send 2", "send 3")
        for when in whens + ("pull",):
            for act in acts + ("take", "tell"):
                if when == "pull" and act != "none":
                    continue
                host, device = [], []
                if act != "tell":
                    host = [(3, when, 2, act)]
                if act != "take":
                    device = [(3, when, 2, act)]
                line = "rule 3 " + when + " 2 " + act + "\n"
                expected = "host 4 1\n" + line * len(host) + "device 5 0\n" + line * len(device)
                self.assertEqual(printed(((4, 1, tuple(host)), (5, 0, tuple(device)))), expected)

    def test_tuples_and_lists(self):
        for protocol in SAMPLES + tuple(random_protocols(61, 100, 5, 12)):
            told = printed(protocol)
            self.assertIs(type(told), str)
            for form in (as_lists(protocol), mixed(protocol), mixed(protocol, 1)):
                before = copy.deepcopy(form)
                self.assertEqual(printed(form), told)
                self.assertEqual(printed(protocol=form), told)
                self.assertEqual(shown(form), shown(before))

    def test_what_is_no_protocol(self):
        for value in list(ODD_VALUES) + list(changed(TWICE)):
            if not is_protocol(value):
                check_error(self, BadValue, 0, printed, value)


class Parse(unittest.TestCase):
    def check(self, text):
        """Compare with the second account; return whether the text was taken."""
        expected = fault(text)
        if expected is None:
            protocol = parse(text)
            whole = text if text.endswith("\n") else text + "\n"
            self.assertIs(is_protocol(protocol), True)
            self.assertEqual(printed(protocol), whole)
            self.assertEqual(parse(whole), protocol)
            return True
        check_error(self, BadText, expected, parse, text)
        return False

    def wrong(self, at, text):
        self.assertEqual(fault(text), at, text)
        check_error(self, BadText, at, parse, text)

    def test_the_example(self):
        self.assertEqual(shown(parse(TWICE_TEXT)), shown(TWICE))
        self.assertEqual(shown(parse(text=TWICE_TEXT)), shown(TWICE))

    def test_last_line_feed_may_lack(self):
        self.assertEqual(shown(parse(TWICE_TEXT[:-1])), shown(TWICE))
        self.assertEqual(shown(parse("host 1 0\ndevice 1 0")), shown(((1, 0, ()), (1, 0, ()))))

    def test_there_and_back(self):
        for protocol in SAMPLES + tuple(random_protocols(62, 300, 5, 12)):
            for text in (printed(protocol), printed(protocol)[:-1]):
                told = parse(text)
                self.assertEqual(shown(told), shown(protocol))
                self.assertEqual(printed(told), printed(protocol))

    def test_ends_too_early(self):
        self.wrong(0, "")
        self.wrong(1, "host 2 0")
        self.wrong(1, "host 2 0\n")
        self.wrong(3, "host 2 0\nrule 0 tick 1 take\nrule 1 tick 1 none\n")
        lines = TWICE_TEXT.splitlines()
        for many in range(len(lines) + 1):
            self.assertEqual(self.check(text_of(lines[:many])), many > 4)
            self.assertEqual(self.check("\n".join(lines[:many])), many > 4)

    def test_empty_lines(self):
        self.wrong(0, "\n")
        self.wrong(0, "\n" + TWICE_TEXT)
        self.wrong(7, TWICE_TEXT + "\n")
        self.wrong(7, TWICE_TEXT + "\n\n")
        lines = TWICE_TEXT.splitlines()
        for at in range(len(lines)):
            self.wrong(at, text_of(lines[:at] + [""] + lines[at:]))
        self.wrong(0, "\n" * 20000)

    def test_spaces_and_other_signs(self):
        lines = TWICE_TEXT.splitlines()
        for at, line in enumerate(lines):
            spoilt = [line + " ", " " + line, line + "\t", line + "\r", line.upper(), line + " 0", line + ".", "\t" + line]
            spoilt += [line.replace(" ", "  ", 1), line.replace(" ", "\t", 1), line.replace(" ", "\n", 1), line[:-1]]
            spoilt += [line.replace("0", "00"), line.replace("0", "+0"), line.replace("0", "-0"), line + "\x0b"]
            spoilt += [line.replace("0", "\u0660"), line.replace("0", "\u00b2"), line + "\x0c", line + "\u2028"]
            for other in spoilt:
                if other != line:
                    self.wrong(at, text_of(lines[:at] + [other] + lines[at + 1:]))
                    self.wrong(at, "\n".join(lines[:at] + [other] + lines[at + 1:]))
        self.wrong(0, TWICE_TEXT.replace("\n", "\r\n"))
        self.wrong(0, TWICE_TEXT.replace("\n", "\r"))

    def test_heads(self):
        for states in range(-1, 12):
            for start in range(-1, 8):
                good = 1 <= states <= 5 and 0 <= start < states
                self.assertIs(self.check("host %d %d\ndevice 1 0\n" % (states, start)), good)
                self.assertIs(self.check("host 1 0\ndevice %d %d\n" % (states, start)), good)
        for line in ("host", "host 1", "host 1 0 0", "host  1 0", "host 1 0 ", "host 0 1", "Host 1 0", "device 1 0", "rule",
                     "rule 0 tick 0 none", "host a b", "host1 0", "", " "):
            self.wrong(0, line + "\ndevice 1 0\n")
            self.wrong(0, line)
        for line in ("host 1 0", "device", "device 1", "device 1 0 0", "device 0 0", "devices 1 0", ""):
            self.wrong(1, "host 1 0\n" + line + "\ndevice 1 0")
        self.wrong(2, "host 1 0\ndevice 1 0\nhost 1 0\ndevice 1 0\n")
        self.wrong(2, "host 1 0\ndevice 1 0\ndevice 1 0\n")

    def test_rule_lines(self):
        for line in ("rule", "rule 0", "rule 0 tick", "rule 0 tick 1", "rule 0 got", "rule 0 got 0", "rule 0 got 0 1",
                     "rule 0 got 0 1 none none", "rule 0 tick 1 none 0", "rule 0 tick 1 send", "rule 0 tick 1 send 4",
                     "rule 0 got 4 1 none", "rule 0 tick 2 none", "rule 2 tick 0 none", "rule 0 tick 1 send 0 0",
                     "rule 0 pull 1 take", "rule 0 pull 1 send 0", "rule 0 pull 1 tell", "rule 0 plug 1 none",
                     "rule 0 tick 1 got 0", "rule 0 send 0 1 none", "rule 0 none 1 tick", "rules 0 tick 1 none",
                     "rule 0 got 0 none", "rule -1 tick 0 none", "rule 0 tick 01 none", "rule 0 got 00 1 none",
                     "rule 0 got  0 1 none", "rule 0 got 0  1 none", "rule 0 got 0 1  none", "rule 0 tick 1 send  0",
                     "rule got 0 0 none", "rule tick 0 0 none", "rule 6 tick 0 none", "rule 9 tick 0 none"):
            self.wrong(1, "host 2 0\n" + line + "\ndevice 1 0\n")
            self.wrong(2, "host 1 0\ndevice 2 0\n" + line)

    def test_barred_acts(self):
        self.wrong(1, "host 1 0\nrule 0 tick 0 tell\ndevice 1 0\n")
        self.wrong(2, "host 1 0\ndevice 1 0\nrule 0 tick 0 take\n")
        self.assertTrue(self.check("host 1 0\nrule 0 tick 0 take\ndevice 1 0\nrule 0 tick 0 tell\n"))

    def test_twelve_rules(self):
        for many in (11, 12, 13, 14):
            for text, at in (
                (text_of(["host 5 0"] + rules(many) + ["device 1 0"]), 13),
                (text_of(["host 1 0", "device 5 0"] + rules(many)), 14),
            ):
                if many <= 12:
                    self.assertTrue(self.check(text))
                else:
                    self.wrong(at, text)
        both = text_of(["host 5 0"] + rules(12) + ["device 5 0"] + rules(12))
        self.assertTrue(self.check(both))
        self.wrong(26, both + "rule 4 tick 4 none")

    def test_the_same_rule_twice(self):
        lines = ["host 2 0"] + rules(3)[:1] + ["rule 1 got 0 0 take"] + ["device 2 0"] + rules(2)
        self.assertTrue(self.check(text_of(lines)))
        self.wrong(3, text_of(lines[:3] + lines[1:2] + lines[3:]))
        self.wrong(3, text_of(lines[:3] + lines[2:3] + lines[3:]))
        self.wrong(6, text_of(lines + lines[4:5]))
        self.wrong(6, text_of(lines + lines[5:6]))

    def test_pull_twice_for_a_state(self):
        text = "host 2 0\nrule 0 pull 1 none\nrule 1 pull 1 none\ndevice 2 0\nrule 0 pull 0 none\n"
        self.assertTrue(self.check(text))
        self.wrong(2, text.replace("rule 1 pull 1", "rule 0 pull 0"))
        self.wrong(5, text + "rule 0 pull 1 none")

    def test_one_line_left_out_again_or_exchanged(self):
        for protocol in (TWICE, PROVED, PROVED_PULL):
            lines = printed(protocol).splitlines()
            for at in range(len(lines)):
                self.check(text_of(lines[:at] + lines[at + 1:]))
                self.check(text_of(lines[:at + 1] + lines[at:]))
                for other in range(at):
                    row = list(lines)
                    row[at], row[other] = row[other], row[at]
                    self.check(text_of(row))

    def test_one_word_changed_left_out_or_again(self):
        words = ("host", "device", "rule", "tick", "pull", "got", "send", "take", "tell", "none", "0", "1", "2", "4", "5", "")
        taken = 0
        for protocol in (TWICE, PROVED_PULL):
            lines = [line.split(" ") for line in printed(protocol).splitlines()]
            for at, line in enumerate(lines):
                rows = [line[:k] + line[k + 1:] for k in range(len(line))]
                rows += [line[:k + 1] + line[k:] for k in range(len(line))]
                rows += [line[:k] + [word] + line[k + 1:] for k in range(len(line)) for word in words]
                rows += [line[:k] + [word] + line[k:] for k in range(len(line) + 1) for word in words]
                rows += [line[:k] + line[k + 1:k + 2] + line[k:k + 1] + line[k + 2:] for k in range(len(line) - 1)]
                for row in rows:
                    whole = lines[:at] + [row] + lines[at + 1:]
                    taken += self.check(text_of(" ".join(part) for part in whole))
        self.assertGreater(taken, 100)

    def test_one_sign_changed_left_out_or_again(self):
        dice = random.Random(63)
        signs = "0123459 \nabeghiklnoprstuv\t\r-"
        for protocol in (TWICE,) + tuple(random_protocols(64, 25, 5, 12)):
            text = printed(protocol)
            for _ in range(120):
                at = dice.randrange(len(text))
                sign = dice.choice(signs)
                self.check(text[:at] + sign + text[at + 1:])
                self.check(text[:at] + sign + text[at:])
                self.check(text[:at] + text[at + 1:])
                self.check(text[:at])

    def test_first_wrong_line_is_told(self):
        self.wrong(1, "host 2 0\nrule 0 tick 2 none\nrule 0 tick 2 none\n\n")
        self.wrong(2, "host 2 0\nrule 0 tick 1 none\nrule\nhost")

    def test_what_is_no_string(self):
        for value in ODD_VALUES + (0, 1, [TWICE_TEXT], (TWICE_TEXT,), TWICE_TEXT.splitlines(), TWICE):
            if not isinstance(value, str):
                check_error(self, BadText, 0, parse, value)
                self.assertIs(type(raised(parse, text=value)), BadText)

    def test_large_texts(self):
        self.wrong(0, "x" * 20000)
        self.wrong(0, "host " * 4000)
        self.wrong(2, "host 1 0\nrule 0 tick 0 none\n" + "rule 0 tick 0 none\n" * 1000)


if __name__ == "__main__":
    unittest.main()
