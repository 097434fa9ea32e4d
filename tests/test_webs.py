"""[4], [5], [26] to [31]: webs, lawful sets, moves, ways and orders."""

import copy
import itertools
import math
import random
import unittest

from pullsafe.errors import BadValue
from pullsafe.webs import allowed, habits_of, is_web, lawful, orders, same, way
from tests import web_model
from tests.samples import ODD_VALUES, as_lists, as_tuples, changed, check_error, check_plain, mixed, shown

TREE = ((), (0,), (0,))
DIAMOND = ((), (0,), (0,), (1, 2))
LINE = tuple(tuple(range(node))[-1:] for node in range(8))
THICK = tuple(tuple(range(node)) for node in range(8))
LOOSE = ((),) * 8
BACKWARD = ((1, 2), (2,), ())


def line(many):
    return LINE[:many]


def circle(many, length):
    """Return a row in which the first nodes supply each other in a circle."""
    rows = [(node + 1,) for node in range(length - 1)] + [(0,)]
    return tuple(rows + [()] * (many - length))


def random_webs(seed, most, each):
    dice = random.Random(seed)
    return [
        web_model.random_web(dice, many, percent)
        for many in range(1, most + 1) for percent in (0, 15, 40, 70, 100) for _ in range(each)
    ]


class IsWeb(unittest.TestCase):
    def check(self, value, expected):
        for form in (as_tuples(value), as_lists(value), mixed(value), mixed(value, 1)):
            before = copy.deepcopy(form)
            self.assertIs(is_web(form), expected, form)
            self.assertEqual(shown(form), shown(before))

    def test_samples(self):
        for web in (((),), TREE, DIAMOND, LINE, THICK, LOOSE, BACKWARD, ((1,), ()), ((7,),) + ((),) * 7):
            self.check(web, True)

    def test_by_name(self):
        self.assertIs(is_web(value=TREE), True)
        self.assertIs(is_web(value=None), False)

    def test_one_to_eight_nodes(self):
        for many in range(12):
            self.check(((),) * many, 1 <= many <= 8)
        self.check(((),) * 5000, False)

    def test_random_webs(self):
        for web in random_webs(21, 8, 5):
            self.check(web, True)

    def test_all_rows_of_four_nodes(self):
        counts = []
        for many in (1, 2, 3, 4):
            rows = web_model.rows_of_webs(many)
            told = [is_web(row) for row in rows]
            self.assertEqual(told, [web_model.is_web(row) for row in rows])
            counts.append(sum(told))
        # The known numbers of directed graphs without circles.
        self.assertEqual(counts, [1, 3, 25, 543])

    def test_circles_of_each_length(self):
        for many in range(1, 9):
            for length in range(1, many + 1):
                self.check(circle(many, length), False)
                row = list(circle(many, length))
                row[length - 1] = ()
                self.check(tuple(row), True)

    def test_circle_among_thick_suppliers(self):
        self.check(((7,),) + THICK[1:], False)
        self.check(THICK[:3] + ((0, 1, 2, 4),) + THICK[4:], False)
        self.check(((), (2,), (3,), (1,), (0, 1, 2, 3)), False)

    def test_suppliers_that_are_none(self):
        for row in ((1, 0), (0, 0), (0, 1, 1), (3,), (-1,), (2,), (0, 2), (True,), (False,), (0, True), ("0",), (None,),
                    ((0,),), (10 ** 30,), (-10 ** 30,)):
            self.check(((), (), row), False)
        self.check((((0,),), ()), False)
        for row in (0, "", "0", None, True, False, 1):
            self.check((row,), False)
            self.check((row, ()), False)
            self.check(((), row), False)

    def test_true_in_the_place_of_one(self):
        self.check(((), (), (1,)), True)
        self.check(((), (), (True,)), False)
        self.check(((), (0,)), True)
        self.check(((), (False,)), False)

    def test_odd_values(self):
        for odd in ODD_VALUES + ("()", "x" * 20000, 0, 1):
            self.check(odd, web_model.is_web(odd))

    def test_changed_at_one_place(self):
        odd_values = ODD_VALUES + (0, 1, 2, 3, 8, (1,), (0, 2), (2, 0), (1, 1))
        refused = 0
        for web in (DIAMOND, as_lists(DIAMOND), BACKWARD, THICK):
            for value in changed(web, odd_values):
                expected = web_model.is_web(value)
                refused += not expected
                self.assertIs(is_web(value), expected, value)
        self.assertGreater(refused, 500)


class NoWeb(unittest.TestCase):
    """Functions that take a web refuse what is none before anything else."""

    def calls(self, bad):
        check_error(self, BadValue, 0, allowed, bad, (), ())
        check_error(self, BadValue, 0, allowed, bad, None, None)
        check_error(self, BadValue, 0, lawful, bad)
        check_error(self, BadValue, 0, way, bad, (), ())
        check_error(self, BadValue, 0, way, bad, (0, 0), 5)
        check_error(self, BadValue, 0, orders, bad)
        check_error(self, BadValue, 0, habits_of, bad)
        check_error(self, BadValue, 0, same, bad, habits_of(TREE))
        check_error(self, BadValue, 0, same, bad, None)

    def test_what_is_none(self):
        for bad in ODD_VALUES + (((0,),), ((1,), (0,)), ((1, 0), ()), ((),) * 9, circle(8, 8), ((), (False,))):
            if not web_model.is_web(bad):
                self.calls(bad)
                self.calls(as_lists(bad))

    def test_changed_at_one_place(self):
        for value in changed(TREE):
            if not web_model.is_web(value):
                self.calls(value)


class Lawful(unittest.TestCase):
    def test_examples(self):
        self.assertEqual(lawful(((),)), ((), (0,)))
        self.assertEqual(lawful(TREE), ((), (0,), (0, 1), (0, 1, 2), (0, 2)))
        self.assertEqual(lawful(BACKWARD), ((), (0, 1, 2), (1, 2), (2,)))

    def test_eight_nodes(self):
        self.assertEqual(lawful(LINE), tuple(tuple(range(many)) for many in range(9)))
        self.assertEqual(lawful(THICK), lawful(LINE))
        every = [row for size in range(9) for row in itertools.combinations(range(8), size)]
        self.assertEqual(lawful(LOOSE), tuple(sorted(every)))

    def test_by_search(self):
        for web in random_webs(22, 8, 3):
            told = lawful(web)
            check_plain(self, told)
            self.assertEqual(told, web_model.lawful(web))
            self.assertEqual(lawful(web=as_lists(web)), told)
            self.assertEqual(lawful(mixed(web)), told)
            self.assertEqual(sorted(web_model.ways_from(web, ())), list(told))


class Allowed(unittest.TestCase):
    def test_examples(self):
        self.assertIs(allowed(TREE, (), ()), None)
        self.assertEqual(allowed(TREE, (), (("wake", 1),)), 0)
        self.assertIs(allowed(TREE, (), (("wake", 0), ("wake", 2), ("wake", 1), ("sleep", 2))), None)
        self.assertEqual(allowed(TREE, (), (("wake", 0), ("wake", 2), ("sleep", 0), ("wake", 1))), 2)
        self.assertEqual(allowed(TREE, (0, 1), (("sleep", 1), ("sleep", 0), ("wake", 1))), 2)

    def test_awake_and_asleep(self):
        self.assertEqual(allowed(TREE, (0,), (("wake", 0),)), 0)
        self.assertEqual(allowed(TREE, (), (("sleep", 0),)), 0)
        self.assertEqual(allowed(TREE, (), (("wake", 0), ("wake", 0))), 1)
        self.assertEqual(allowed(TREE, (0,), (("sleep", 0), ("sleep", 0))), 1)

    def test_first_middle_and_last_place(self):
        good = (("wake", 0), ("wake", 1), ("wake", 2), ("wake", 3), ("sleep", 3), ("sleep", 1), ("sleep", 2))
        self.assertIs(allowed(DIAMOND, (), good), None)
        # Node 0 can sleep again behind its own waking, so that only the next move is refused, and at the end.
        for at, expected in enumerate((0, 2, 2, 3, 4, 5, 6, None)):
            self.assertEqual(allowed(DIAMOND, (), good[:at] + (("sleep", 0),) + good[at:]), expected)
        self.assertEqual(allowed(DIAMOND, (), (("wake", 3),) + good), 0)
        self.assertEqual(allowed(DIAMOND, (), good[:3] + (("sleep", 1), ("wake", 3))), 4)
        self.assertEqual(allowed(DIAMOND, (), good + (("wake", 3),)), 7)

    def test_random_moves(self):
        dice = random.Random(23)
        met = {}
        for web in random_webs(24, 8, 6):
            moves = web_model.all_moves(len(web))
            for awake in dice.sample(lawful(web), min(4, len(lawful(web)))):
                row = []
                here = frozenset(awake)
                for _ in range(dice.randrange(12)):
                    good = [move for move in moves if web_model.web_allows(web, here, move)]
                    move = dice.choice(good if dice.randrange(8) else moves)
                    row.append(move)
                    here = web_model.behind(here, move)
                expected = web_model.first_refused(web, awake, row)
                met[expected] = met.get(expected, 0) + 1
                for form in (tuple(row), as_lists(row), mixed(row), mixed(row, 1)):
                    before = copy.deepcopy(form)
                    told = allowed(as_lists(web), list(awake), form)
                    self.assertEqual(shown(told), shown(expected), (web, awake, row))
                    self.assertEqual(shown(form), shown(before))
        self.assertGreater(met[None], 50)
        self.assertGreater(min(met.get(at, 0) for at in range(5)), 5, met)

    def test_each_single_move_in_each_lawful_set(self):
        for web in web_model.all_webs(3) + [DIAMOND, THICK, LINE]:
            for awake in lawful(web):
                for move in web_model.all_moves(len(web)):
                    expected = None if web_model.web_allows(web, set(awake), move) else 0
                    self.assertEqual(allowed(web, awake, (move,)), expected)

    def test_many_moves(self):
        row = (("wake", 0), ("sleep", 0)) * 3000
        self.assertIs(allowed(LOOSE, (1,), row), None)
        self.assertEqual(allowed(LOOSE, (1,), row + (("sleep", 0), ("wake", 0))), 6000)

    def test_by_name(self):
        self.assertEqual(allowed(moves=[["wake", 1]], awake=[], web=as_lists(TREE)), 0)
        self.assertIs(allowed(moves=[["wake", 1]], awake=[0], web=as_lists(TREE)), None)

    def test_sets_that_are_none(self):
        odd_values = [odd for odd in ODD_VALUES if odd not in ((), [], (0,))]
        for bad in odd_values + [(1,), (2,), (1, 2), (1, 0), (0, 0), (0, 0, 1), (0, 3), (-1, 0), (0, True), (False, 1),
                                 (0, "1"), "0", (0, (1,)), (0, 1, 2, 3), 0, 1]:
            for moves in ((), (("wake", 0),), None, (("gone", 0),)):
                check_error(self, BadValue, 1, allowed, TREE, bad, moves)
                check_error(self, BadValue, 1, allowed, as_lists(TREE), as_lists(bad), moves)
        check_error(self, BadValue, 1, allowed, TREE, (False,), ())

    def test_moves_that_are_none(self):
        bad_moves = ODD_VALUES + (
            ("wake",), ("wake", 3), ("wake", -1), ("wake", True), ("sleep", False), ("Wake", 0), ("wake", "0"),
            ("wake", 0, 0), (0, "wake"), ("plug", 0), "wake", ("wake", (0,)), ("", 0), ("wake ", 0), (("wake",), 0),
            ("sleep", 10 ** 30), ("sleep", None), (None, 0),
        )
        for bad in bad_moves:
            for at in range(3):
                row = [("wake", 0), ("wake", 1)]
                row.insert(at, bad)
                check_error(self, BadValue, 2, allowed, TREE, (), tuple(row))
                check_error(self, BadValue, 2, allowed, TREE, (), as_lists(row))
        for bad in ODD_VALUES + ("wake", ("wake", 0), 0, 1):
            if bad not in ((), []):
                check_error(self, BadValue, 2, allowed, TREE, (), bad)

    def test_no_move_behind_one_that_is_not_allowed(self):
        check_error(self, BadValue, 2, allowed, TREE, (), (("wake", 1), ("wake", 3)))
        self.assertEqual(allowed(TREE, (), (("wake", 1), ("wake", 2))), 0)


class Way(unittest.TestCase):
    def test_examples(self):
        self.assertEqual(way(TREE, (0, 1), (0, 2)), (("sleep", 1), ("wake", 2)))
        self.assertEqual(way(TREE, (), ()), ())
        self.assertEqual(way(TREE, (0, 1, 2), ()), (("sleep", 1), ("sleep", 2), ("sleep", 0)))
        self.assertEqual(way(BACKWARD, (), (0, 1, 2)), (("wake", 2), ("wake", 1), ("wake", 0)))
        self.assertEqual(way(BACKWARD, (0, 1, 2), (2,)), (("sleep", 0), ("sleep", 1)))

    def test_same_set(self):
        for web in random_webs(25, 8, 1):
            for awake in lawful(web)[:20]:
                self.assertEqual(way(web, awake, awake), ())

    def check_from(self, web, one):
        ways = web_model.ways_from(web, one)
        self.assertEqual(sorted(ways), list(lawful(web)))
        for other, expected in ways.items():
            told = way(web, one, other)
            self.assertEqual(told, expected, (web, one, other))
            self.assertEqual(sorted(node for _, node in told), sorted(set(one) ^ set(other)))

    def test_all_pairs_of_small_webs(self):
        for web in web_model.all_webs(3) + [w for w in random_webs(26, 5, 1) if len(w) > 3]:
            for one in lawful(web):
                self.check_from(web, one)

    def test_larger_webs(self):
        dice = random.Random(27)
        for web in [w for w in random_webs(28, 8, 2) if len(w) > 5] + [LINE, THICK, LOOSE]:
            self.check_from(web, dice.choice(lawful(web)))

    def test_lists_and_names(self):
        told = way(DIAMOND, (0, 1), (0, 2))
        check_plain(self, told)
        before = as_lists(DIAMOND)
        web = as_lists(DIAMOND)
        self.assertEqual(way(other=[0, 2], one=[0, 1], web=web), told)
        self.assertEqual(web, before)

    def test_sets_that_are_none(self):
        bad_sets = [odd for odd in ODD_VALUES if odd not in ((), [], (0,))]
        for bad in bad_sets + [(1,), (1, 0), (0, 0), (0, 1, 1), (0, 4), (-1,), (0, True), (0, 3), (0, 1, 3), (1, 2, 3)]:
            check_error(self, BadValue, 1, way, DIAMOND, bad, (0,))
            check_error(self, BadValue, 2, way, DIAMOND, (0,), bad)
            check_error(self, BadValue, 1, way, DIAMOND, bad, bad)
            check_error(self, BadValue, 2, way, DIAMOND, [], as_lists(bad))


class Orders(unittest.TestCase):
    def test_examples(self):
        self.assertEqual(orders(TREE), 2)
        self.assertEqual(orders(((),)), 1)
        self.assertEqual(orders(DIAMOND), 2)
        self.assertEqual(orders(BACKWARD), 1)

    def test_eight_nodes(self):
        self.assertEqual(orders(LOOSE), math.factorial(8))
        self.assertEqual(orders(LINE), 1)
        self.assertEqual(orders(THICK), 1)
        self.assertEqual(orders(((),) * 4 + ((0,), (1,), (2,), (3,))), 2520)
        self.assertEqual(orders(((),) + ((0,),) * 7), math.factorial(7))

    def test_against_all_rows(self):
        webs = [web for many in (1, 2, 3, 4) for web in web_model.all_webs(many)]
        webs += [web for web in random_webs(29, 5, 12) if len(web) == 5] + [w for w in random_webs(30, 7, 1) if len(w) > 5]
        for web in webs:
            told = orders(web)
            self.assertIs(type(told), int)
            self.assertEqual(told, web_model.orders(web), web)
            self.assertEqual(orders(web=as_lists(web)), told)

    def test_also_the_ways_to_put_all_to_sleep(self):
        for web in random_webs(31, 5, 3):
            many = 0
            for row in itertools.permutations(range(len(web))):
                moves = [("sleep", node) for node in row]
                many += web_model.first_refused(web, range(len(web)), moves) is None
            self.assertEqual(orders(web), many)


if __name__ == "__main__":
    unittest.main()
