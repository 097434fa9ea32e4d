"""[6], [7], [32] to [35]: habits, same and web_of."""

import copy
import itertools
import random
import unittest

from pullsafe.errors import BadValue
from pullsafe.webs import allowed, habits_of, is_habits, is_web, same, web_of
from tests import web_model
from tests.samples import ODD_VALUES, as_lists, as_tuples, changed, check_error, check_plain, mixed, shown
from tests.test_webs import BACKWARD, DIAMOND, LINE, LOOSE, THICK, TREE, random_webs

NOTHING = (((), ()), ((), ()))

# A node of two that is woken while the other is asleep, so that habits and webs differ.
ALONE = ((((), (1,)), ((), ())), (((), (0,)), ((), ())))


def forms(value):
    return (as_tuples(value), as_lists(value), mixed(value), mixed(value, 1))


class IsHabits(unittest.TestCase):
    def check(self, value, expected):
        for form in forms(value):
            before = copy.deepcopy(form)
            self.assertIs(is_habits(form), expected, form)
            self.assertEqual(shown(form), shown(before))

    def test_samples(self):
        for web in (TREE, DIAMOND, LINE, THICK, LOOSE, BACKWARD):
            self.check(habits_of(web), True)
        self.check(ALONE, True)
        self.check((NOTHING,), True)
        self.assertIs(is_habits(value=(NOTHING,)), True)
        self.assertIs(is_habits(value=()), False)

    def test_circles_are_habits(self):
        self.check(((((1,), ()), ((1,), ())), (((0,), ()), ((), (0,)))), True)

    def test_one_to_eight_nodes(self):
        for many in range(12):
            self.check((NOTHING,) * many, 1 <= many <= 8)

    def test_random_habits(self):
        dice = random.Random(41)
        for many in range(1, 9):
            for percent in (0, 30, 60, 100):
                self.check(web_model.random_habits(dice, many, percent), True)

    def test_rows_that_are_none(self):
        good = ((0, 2), ())
        for which in (0, 1):
            for side in (0, 1):
                for row in ((2, 0), (0, 0), (1,), (0, 1, 2), (3,), (-1,), (True,), (False,), ("0",), (None,), ((0,),),
                            "0", 0, None, True, (10 ** 30,)):
                    pairs = [list(good), list(good)]
                    pairs[which][side] = row
                    pairs[which][1 - side] = ()
                    self.check((NOTHING, tuple(map(tuple, pairs)), NOTHING), False)

    def test_same_node_in_up_and_down(self):
        self.check((NOTHING, (((0,), (2,)), ((2,), (0,))), NOTHING), True)
        self.check((NOTHING, (((0, 2), (2,)), ((), ())), NOTHING), False)
        self.check((NOTHING, (((), ()), ((0,), (0, 2))), NOTHING), False)

    def test_pairs_that_are_none(self):
        for bad in ODD_VALUES + (((),), ((), (), ()), (((), ()),), (((), ()), ((), ()), ((), ())), "ab"):
            self.check((bad,), False)
            self.check((NOTHING, bad), False)
            self.check(((((), ()), bad),), web_model.is_habits(((((), ()), bad),)))
            self.check(((bad, ((), ())),), web_model.is_habits(((bad, ((), ())),)))

    def test_odd_values(self):
        for odd in ODD_VALUES + ("()", "x" * 20000, 0, 1, NOTHING):
            self.check(odd, False)

    def test_changed_at_one_place(self):
        odd_values = ODD_VALUES + (0, 1, 2, 3, (1,), (0, 2), (2, 0))
        refused = taken = 0
        for habits in (habits_of(DIAMOND), as_lists(habits_of(TREE)), ALONE):
            for value in changed(habits, odd_values):
                expected = web_model.is_habits(value)
                refused += not expected
                taken += expected
                self.assertIs(is_habits(value), expected, value)
        self.assertGreater(refused, 500)
        self.assertGreater(taken, 30)


class HabitsOf(unittest.TestCase):
    def test_example(self):
        self.assertEqual(habits_of(TREE), ((((), ()), ((), (1, 2))), (((0,), ()), ((), ())), (((0,), ()), ((), ()))))
        self.assertEqual(habits_of(((),)), (NOTHING,))

    def test_by_words(self):
        for web in random_webs(42, 8, 4):
            told = habits_of(web)
            check_plain(self, told)
            self.assertEqual(told, web_model.habits_by_words(web))
            self.assertEqual(habits_of(web=as_lists(web)), told)
            self.assertIs(is_habits(told), True)


class Same(unittest.TestCase):
    def check(self, web, habits):
        """Compare with all sequences, and check the difference that is told."""
        expected = web_model.same(web, habits)
        told = same(web, habits)
        self.assertEqual(told, expected, (web, habits))
        if told is not None:
            check_plain(self, told)
        return told

    def check_difference(self, web, habits, told):
        """Check by the words of [34] that just the one that is told allows the moves."""
        moves, which = told
        awake = frozenset()
        for move in moves[:-1]:
            self.assertTrue(web_model.web_allows(web, awake, move) and web_model.habits_allow(habits, awake, move))
            awake = web_model.behind(awake, move)
        self.assertIs(web_model.web_allows(web, awake, moves[-1]), which == "web")
        self.assertIs(web_model.habits_allow(habits, awake, moves[-1]), which == "habits")
        self.assertLessEqual(len(moves), len(web) + 1)

    def test_own_habits(self):
        for web in random_webs(43, 8, 3):
            self.assertIs(same(web, habits_of(web)), None)
            self.assertIs(same(as_lists(web), as_lists(habits_of(web))), None)
            self.assertIs(same(web, habits_of(web_model.closed(web))), None)

    def test_examples(self):
        self.assertEqual(same(((), ()), ALONE), ((("wake", 0), ("wake", 1)), "web"))
        self.assertEqual(same(((), (0,)), habits_of(((), ()))), ((("wake", 1),), "habits"))
        self.assertEqual(same(((), ()), habits_of(((), (0,)))), ((("wake", 1),), "web"))
        late = habits_of(TREE)[:1] + ((((0,), ()), ((2,), ())),) + habits_of(TREE)[2:]
        self.assertEqual(same(TREE, late), ((("wake", 0), ("wake", 1), ("sleep", 1)), "web"))

    def test_one_move_more_than_nodes(self):
        # All are awake before the difference shows.
        habits = list(habits_of(LINE))
        habits[7] = (habits[7][0], ((), (0,)))
        wakes = tuple(("wake", node) for node in range(8))
        self.assertEqual(same(LINE, tuple(habits)), (wakes + (("sleep", 7),), "web"))
        habits[7] = (habits[7][0], ((0, 1), ()))
        self.assertIs(same(LINE, tuple(habits)), None)
        habits[6] = (habits[6][0], ((), ()))
        self.assertEqual(same(LINE, tuple(habits)), (wakes + (("sleep", 6),), "habits"))

    def test_suppliers_put_in_or_left_out(self):
        met = {None: 0, "web": 0, "habits": 0}
        for web in [web for web in random_webs(44, 4, 2)] + [DIAMOND, BACKWARD, LINE[:4], THICK[:4]]:
            for habits in web_model.changed_habits(habits_of(web)):
                told = self.check(web, habits)
                met[told and told[1]] += 1
                if told is not None:
                    self.check_difference(web, habits, told)
        self.assertGreater(min(met.values()), 20, met)

    def test_changed_twice(self):
        dice = random.Random(45)
        for web in random_webs(46, 5, 2):
            for _ in range(3):
                habits = habits_of(web)
                for _ in range(2):
                    habits = dice.choice(list(web_model.changed_habits(habits)) or [habits])
                self.check(web, habits)

    def test_random_habits(self):
        dice = random.Random(47)
        for web in random_webs(48, 4, 4):
            self.check(web, web_model.random_habits(dice, len(web), dice.choice((10, 30, 60))))

    def test_other_webs(self):
        webs = web_model.all_webs(3)
        for web in webs:
            for other in webs:
                told = self.check(web, habits_of(other))
                self.assertEqual(told is None, web_model.closed(web) == web_model.closed(other))

    def test_larger_webs(self):
        for web in [web for web in random_webs(49, 8, 1) if len(web) > 5]:
            for habits in list(web_model.changed_habits(habits_of(web)))[::5]:
                told = same(web, habits)
                one = web_model.behaviour_of_web(web)
                self.assertEqual(told is None, one == web_model.behaviour_of_habits(habits))
                if told is not None:
                    self.check_difference(web, habits, told)
                    moves = told[0]
                    self.assertIn(allowed(web, (), moves), (None, len(moves) - 1))

    def test_lists_and_names(self):
        told = same(TREE, habits_of(LOOSE[:3]))
        for form in forms(habits_of(LOOSE[:3])):
            before = copy.deepcopy(form)
            self.assertEqual(same(habits=form, web=as_lists(TREE)), told)
            self.assertEqual(shown(form), shown(before))

    def test_another_number_of_nodes(self):
        for many in range(1, 9):
            for other in range(0, 11):
                habits = (NOTHING,) * other
                if many == other:
                    self.assertIs(same(LOOSE[:many], habits), None)
                else:
                    check_error(self, BadValue, 1, same, LOOSE[:many], habits)

    def test_what_is_no_habits(self):
        for bad in ODD_VALUES + (TREE, habits_of(TREE)[:2], habits_of(TREE) + (NOTHING,)):
            check_error(self, BadValue, 1, same, TREE, bad)
        for value in changed(habits_of(TREE)):
            if not web_model.is_habits(value) or len(value) != 3:
                check_error(self, BadValue, 1, same, TREE, value)
            else:
                self.check(TREE, value)


class WebOf(unittest.TestCase):
    def test_webs(self):
        for web in random_webs(50, 8, 3):
            told = web_of(habits_of(web))
            check_plain(self, told)
            self.assertEqual(told, web_model.closed(web))
            self.assertIs(is_web(told), True)

    def test_examples(self):
        self.assertEqual(web_of(habits_of(LINE)), THICK)
        self.assertEqual(web_of((NOTHING,)), ((),))
        self.assertIs(web_of(ALONE), None)

    def test_nodes_that_are_never_woken(self):
        circle = ((((1,), ()), ((), (1,))), (((0,), ()), ((), (0,))))
        self.assertIs(web_of(circle), None)
        self.assertIs(web_of(circle + (NOTHING,)), None)

    def test_nodes_that_never_sleep(self):
        self.assertIs(web_of(((((), ()), ((1,), ())), NOTHING)), None)

    def test_other_words_for_the_same(self):
        # While 1 is awake 0 is, so the second may ask for it in its sleep, too.
        habits = ((((), (1,)), ((), (1,))), (((0,), ()), ((0,), ())))
        self.assertEqual(web_of(habits), ((), (0,)))

    def check(self, habits, webs):
        told = web_of(habits)
        self.assertEqual(told, webs.get(web_model.behaviour_of_habits(habits)), habits)
        if told is not None:
            self.assertIs(same(told, habits), None)
        return told is not None

    def webs_by_behaviour(self, many):
        return {web_model.behaviour_of_web(web): web_model.closed(web) for web in web_model.all_webs(many)}

    def test_against_all_webs(self):
        dice = random.Random(51)
        none = some = 0
        for many in (1, 2, 3, 4):
            webs = self.webs_by_behaviour(many)
            tried = [web_model.random_habits(dice, many, percent) for percent in (5, 15, 40) for _ in range(60)]
            for web in dice.sample(list(webs.values()), min(12, len(webs))):
                tried.extend(list(web_model.changed_habits(habits_of(web))))
            for habits in tried:
                found = self.check(habits, webs)
                some += found
                none += not found
        self.assertGreater(some, 100)
        self.assertGreater(none, 100)

    def test_all_habits_of_two_nodes(self):
        webs = self.webs_by_behaviour(2)
        rows = [[((), ()), ((other,), ()), ((), (other,))] for other in (1, 0)]
        every = [tuple(zip(wakes, sleeps)) for wakes in itertools.product(*rows) for sleeps in itertools.product(*rows)]
        self.assertEqual(len(every), 81)
        self.assertGreater(sum(self.check(habits, webs) for habits in every), 2)

    def test_larger_webs(self):
        for web in [web for web in random_webs(52, 8, 1) if len(web) > 5]:
            own = web_model.behaviour_of_web(web)
            for habits in list(web_model.changed_habits(habits_of(web)))[::6]:
                if web_model.behaviour_of_habits(habits) == own:
                    self.assertEqual(web_of(habits), web_model.closed(web))
                else:
                    told = web_of(habits)
                    self.assertTrue(told is None or same(told, habits) is None)

    def test_lists_and_names(self):
        for form in forms(habits_of(DIAMOND)):
            before = copy.deepcopy(form)
            self.assertEqual(shown(web_of(habits=form)), shown(web_model.closed(DIAMOND)))
            self.assertEqual(shown(form), shown(before))

    def test_what_is_no_habits(self):
        for bad in ODD_VALUES + (TREE, (NOTHING,) * 9):
            check_error(self, BadValue, 0, web_of, bad)
        for value in changed(habits_of(TREE)):
            if not web_model.is_habits(value):
                check_error(self, BadValue, 0, web_of, value)


if __name__ == "__main__":
    unittest.main()
