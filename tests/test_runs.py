"""Piles and queues that go along a row: [0.2], [6.1]."""

import copy
import itertools
import unittest

from pageties.errors import NoRun, NoText, PageError
from pageties.runs import is_run, run
from tests.things import (
    KINDS, PLAIN_THINGS, changed_somewhere, deep_things, do_clash, full, is_plainly_made, rows_of, twelve_tie_webs,
    webs_beyond,
)

CROSSING = (4, ((0, 2), (1, 3)))
NESTED = (4, ((0, 3), (1, 2)))
FOUR = (0, 1, 2, 3)

# Ties 0, 1 and 2 begin at the first place of the row 0 1 2 3, ties 2 and 3 end at its last one.
FAN = (4, ((0, 1), (0, 2), (0, 3), (2, 3)))
FAN_PILE = ((2, 1, 0), (2, 1), (2, 3), ())
FAN_QUEUE = ((0, 1, 2), (1, 2), (2, 3), ())


def begins_at(web, row, tie):
    return min(row.index(place) for place in web[1][tie])


def ends_at(web, row, tie):
    return max(row.index(place) for place in web[1][tie])


# What is left when the ties are taken off one by one in this order; None where one can't be.
def taken_off(kind, held, ties):
    for tie in ties:
        if not held or held[-1 if kind == "pile" else 0] != tie:
            return None
        held = held[:-1] if kind == "pile" else held[1:]
    return held


# What may be held behind the place: each order of taking off, then each order of laying on.
def held_behind(web, row, kind, some, spot, held):
    ending = [tie for tie in some if ends_at(web, row, tie) == spot]
    beginning = [tie for tie in some if begins_at(web, row, tie) == spot]
    for order in itertools.permutations(ending):
        left = taken_off(kind, held, order)
        if left is not None:
            for laid in itertools.permutations(beginning):
                yield left + laid


# All runs there are, every order being gone through.
def all_runs(web, row, kind, some):
    runs = {()}
    for spot in range(len(row)):
        runs = {
            so_far + (held,)
            for so_far in runs
            for held in held_behind(web, row, kind, some, spot, so_far[-1] if so_far else ())
        }
    return runs


def sets_of_ties(web):
    ties = range(len(web[1]))
    return [some for count in range(len(web[1]) + 1) for some in itertools.combinations(ties, count)]


def is_right_page(web, row, kind, some):
    return not any(do_clash(web, row, kind, one, other) for one, other in itertools.combinations(some, 2))


class Run(unittest.TestCase):
    def is_told(self, web, row, kind, some):
        told = run(web, row, kind, some)
        self.assertTrue(is_plainly_made(told), told)
        self.assertIs(is_run(web, row, kind, some, told), True, (web, row, kind, some, told))
        self.assertEqual(run(web, row, kind, some), told)
        return told

    def is_refused(self, web, row, kind, some):
        for error in (NoRun, PageError, ValueError):
            with self.assertRaises(error) as taken:
                run(web, row, kind, some)
            self.assertIs(type(taken.exception), NoRun)
            self.assertNotIsInstance(taken.exception, NoText)

    def holds(self, web, row, kind, some):
        runs = all_runs(web, row, kind, some)
        self.assertEqual(runs != set(), is_right_page(web, row, kind, some), (web, row, kind, some))
        if runs:
            self.assertIn(self.is_told(web, row, kind, some), runs)
        else:
            self.is_refused(web, row, kind, some)

    def test_plain_ones(self):
        self.assertEqual(run(CROSSING, FOUR, "queue", (0, 1)), ((0,), (0, 1), (1,), ()))
        self.assertEqual(run(NESTED, FOUR, "pile", (0, 1)), ((0,), (0, 1), (0,), ()))
        self.assertEqual(run(NESTED, FOUR, "queue", (1,)), ((), (1,), (), ()))
        self.is_refused(CROSSING, FOUR, "pile", (0, 1))
        self.is_refused(NESTED, FOUR, "queue", (0, 1))

    def test_no_ties(self):
        for kind in KINDS:
            for many in (1, 2, 6, 9):
                row = tuple(range(many))
                self.assertEqual(run((many, ()), row, kind, ()), ((),) * many)
                self.assertEqual(run(full(many), row, kind, ()), ((),) * many)

    def test_one_tie(self):
        for kind in KINDS:
            for row in rows_of(4):
                for tie, places in enumerate(full(4)[1]):
                    first, last = sorted(row.index(place) for place in places)
                    wanted = tuple((tie,) if first <= spot < last else () for spot in range(4))
                    self.assertEqual(run(full(4), row, kind, (tie,)), wanted)

    def test_several_ties_that_begin_or_end_at_one_place(self):
        self.assertEqual(run(FAN, FOUR, "pile", (0, 1, 2, 3)), FAN_PILE)
        self.assertEqual(run(FAN, FOUR, "queue", (0, 1, 2, 3)), FAN_QUEUE)
        self.assertEqual(run(FAN, (3, 2, 1, 0), "pile", (0, 1, 2, 3)), ((2, 3), (2, 1), (2, 1, 0), ()))
        self.assertEqual(run(FAN, (3, 2, 1, 0), "queue", (0, 1, 2, 3)), ((3, 2), (2, 1), (2, 1, 0), ()))
        star = (6, tuple((0, k) for k in range(1, 6)))
        for row in rows_of(6, 7):
            for kind in KINDS:
                for some in sets_of_ties(star)[::5] + [(0, 1, 2, 3, 4)]:
                    self.holds(star, row, kind, some)

    def test_all_sets_of_ties_of_four_places(self):
        for row in rows_of(4):
            for kind in KINDS:
                for some in sets_of_ties(full(4)):
                    self.holds(full(4), row, kind, some)

    def test_sets_of_ties_of_five_places(self):
        for row in rows_of(5, 13):
            for kind in KINDS:
                for some in sets_of_ties(full(5))[::3]:
                    self.holds(full(5), row, kind, some)

    def test_twelve_ties(self):
        for web in twelve_tie_webs(130):
            for row in rows_of(6, 171):
                for kind in KINDS:
                    for some in sets_of_ties(web)[::37]:
                        self.holds(web, row, kind, some)

    def test_small_webs_of_one_to_three_places(self):
        for many in (1, 2, 3):
            for row in rows_of(many):
                for kind in KINDS:
                    for some in sets_of_ties(full(many)):
                        self.holds(full(many), row, kind, some)

    def test_webs_beyond_the_bounds(self):
        for web in webs_beyond():
            row = tuple(range(1, web[0], 2)) + tuple(range(0, web[0], 2))
            for kind in KINDS:
                for some in itertools.islice(itertools.combinations(range(len(web[1])), 3), 0, 200, 3):
                    self.holds(web, row, kind, some)
        star = (10, tuple((k, 9) for k in range(9)))
        for kind in KINDS:
            self.is_told(star, tuple(range(10)), kind, tuple(range(9)))
            self.is_told(star, (9,) + tuple(range(9)), kind, tuple(range(9)))


class IsRun(unittest.TestCase):
    def told(self, web, row, kind, some, thing, wanted):
        self.assertIs(is_run(web, row, kind, some, thing), wanted, (web, row, kind, some, thing))

    def fan(self, thing, wanted):
        self.told(FAN, FOUR, "pile", (0, 1, 2, 3), thing, wanted)

    def fan_queue(self, thing, wanted):
        self.told(FAN, FOUR, "queue", (0, 1, 2, 3), thing, wanted)

    def test_plain_ones(self):
        self.fan(FAN_PILE, True)
        self.fan_queue(FAN_QUEUE, True)
        self.fan(FAN_QUEUE, False)
        self.fan_queue(FAN_PILE, False)
        self.told(CROSSING, FOUR, "queue", (0, 1), ((0,), (0, 1), (1,), ()), True)
        self.told(CROSSING, FOUR, "pile", (0, 1), ((0,), (0, 1), (1,), ()), False)
        self.told(NESTED, FOUR, "pile", (0, 1), ((0,), (0, 1), (0,), ()), True)
        self.told(NESTED, FOUR, "queue", (0, 1), ((0,), (0, 1), (0,), ()), False)

    def test_no_ties(self):
        for kind in KINDS:
            for many in (1, 2, 6, 9):
                row = tuple(range(many))
                for length in range(many + 3):
                    self.told((many, ()), row, kind, (), ((),) * length, length == many)
                    self.told(full(many), row, kind, (), ((),) * length, length == many)
                self.told(full(many), row, kind, (), [()] * many, False)
                self.told(full(many), row, kind, (), ([],) * many, False)
                self.told(full(many), row, kind, (), ("",) * many, False)
                self.told(full(many), row, kind, (), (None,) * many, False)

    def test_too_short_or_too_long(self):
        for told, told_of in ((FAN_PILE, self.fan), (FAN_QUEUE, self.fan_queue)):
            for thing in ((), told[:1], told[:-1], told[1:], told + ((),), ((),) + told, told + told, (told,)):
                told_of(thing, False)

    def test_a_tie_too_many(self):
        self.fan_queue(((0, 1, 2), (1, 2), (2, 3), (3,)), False)
        self.fan(((2, 1, 0), (2, 1), (2, 3), (2,)), False)
        for some in ((0, 1), (0, 2), (1, 3), (0, 1, 3)):
            self.told(FAN, FOUR, "pile", some, FAN_PILE, False)
            self.told(FAN, FOUR, "queue", some, FAN_QUEUE, False)
        self.told(FAN, FOUR, "pile", (1,), ((1, 0), (1,), (), ()), False)
        self.told(FAN, FOUR, "pile", (1,), ((1,), (1,), (), ()), True)
        self.told(FAN, FOUR, "queue", (1,), ((0, 1), (1,), (), ()), False)
        self.told(FAN, FOUR, "queue", (), ((0,), (), (), ()), False)

    def test_a_tie_left_out(self):
        self.fan(((2, 1), (2, 1), (2, 3), ()), False)
        self.fan(((2, 1, 0), (2, 1), (2,), ()), False)
        self.fan(((1, 0), (1,), (3,), ()), False)
        self.fan(((), (), (), ()), False)
        self.fan_queue(((1, 2), (1, 2), (2, 3), ()), False)
        self.fan_queue(((0, 1, 2), (1, 2), (2,), ()), False)
        self.fan_queue(((0, 1), (1,), (3,), ()), False)
        self.fan_queue(((), (), (), ()), False)

    def test_a_tie_twice(self):
        self.fan(((2, 1, 0, 0), (2, 1), (2, 3), ()), False)
        self.fan(((2, 2, 1, 0), (2, 2, 1), (2, 2, 3), ()), False)
        self.fan(((2, 1, 0), (2, 1), (2, 3, 3), ()), False)
        self.fan(((2, 2, 1, 0), (2, 2, 1), (2, 2, 3), (2,)), False)
        self.fan_queue(((0, 0, 1, 2), (1, 2), (2, 3), ()), False)
        self.fan_queue(((0, 1, 2, 2), (1, 2, 2), (2, 2, 3), ()), False)
        self.fan_queue(((0, 1, 2), (1, 2), (2, 3, 3), ()), False)
        self.fan_queue(((0, 1, 2), (1, 2), (2, 3, 3), (3,)), False)

    def test_a_tie_taken_off_too_early_or_too_late(self):
        self.fan(((2, 1, 0), (2,), (2, 3), ()), False)
        self.fan(((2, 1, 0), (2, 1, 0), (2, 3), ()), False)
        self.fan(((2, 1, 0), (2, 1, 0), (2, 1, 3), ()), False)
        self.fan(((2, 1, 0), (2, 1), (3,), ()), False)
        self.fan_queue(((0, 1, 2), (2,), (2, 3), ()), False)
        self.fan_queue(((0, 1, 2), (0, 1, 2), (2, 3), ()), False)
        self.fan_queue(((0, 1, 2), (1, 2), (1, 2, 3), ()), False)
        self.fan_queue(((0, 1, 2), (1, 2), (3,), ()), False)

    def test_a_wrong_order(self):
        for order in itertools.permutations((0, 1, 2)):
            self.fan((order, tuple(tie for tie in order if tie != 0), (2, 3), ()), order == (2, 1, 0))
            self.fan_queue((order, tuple(tie for tie in order if tie != 0), (2, 3), ()), order == (0, 1, 2))
        self.fan(((2, 1, 0), (1, 2), (2, 3), ()), False)
        self.fan(((2, 1, 0), (2, 1), (3, 2), ()), False)
        self.fan_queue(((0, 1, 2), (2, 1), (2, 3), ()), False)
        self.fan_queue(((0, 1, 2), (1, 2), (3, 2), ()), False)

    # Laid on at the other end: the right ties at each place, and yet neither a pile nor a queue.
    def test_laid_on_at_the_begin(self):
        self.told(NESTED, FOUR, "pile", (0, 1), ((0,), (1, 0), (0,), ()), False)
        self.told(CROSSING, FOUR, "queue", (0, 1), ((0,), (1, 0), (1,), ()), False)
        self.told(CROSSING, FOUR, "pile", (0, 1), ((0,), (1, 0), (1,), ()), False)
        self.told(NESTED, FOUR, "queue", (0, 1), ((0,), (1, 0), (0,), ()), False)

    def test_truths(self):
        for truth, number in ((False, 0), (True, 1)):
            def with_truth(held):
                return tuple(truth if tie == number else tie for tie in held)

            self.fan(tuple(with_truth(held) for held in FAN_PILE), False)
            self.fan_queue(tuple(with_truth(held) for held in FAN_QUEUE), False)
            for spot in range(2 if truth else 1):
                self.fan(FAN_PILE[:spot] + (with_truth(FAN_PILE[spot]),) + FAN_PILE[spot + 1:], False)
                self.fan_queue(FAN_QUEUE[:spot] + (with_truth(FAN_QUEUE[spot]),) + FAN_QUEUE[spot + 1:], False)
            self.fan((truth,) * 4, False)
            self.fan(truth, False)

    def test_numbers_that_are_no_ties(self):
        for number in (-1, -4, 4, 12, 10 ** 50, -(10 ** 50)):
            self.fan(((2, 1, number), (2, 1), (2, 3), ()), False)
            self.fan(((2, 1, 0), (2, 1), (2, 3), (number,)), False)
            self.fan_queue(((number, 1, 2), (1, 2), (2, 3), ()), False)
            self.fan_queue(((0, 1, 2, number), (1, 2, number), (2, 3, number), (number,)), False)

    def test_lists_and_texts(self):
        for told, told_of in ((FAN_PILE, self.fan), (FAN_QUEUE, self.fan_queue)):
            told_of(list(told), False)
            told_of(tuple(list(held) for held in told), False)
            told_of(told[:-1] + ([],), False)
            told_of(told[:-1] + ("",), False)
            told_of(told[:-1] + (None,), False)
            told_of(told[:-1] + (0,), False)
            told_of(tuple("".join(str(tie) for tie in held) for held in told), False)
            told_of(tuple(tuple(str(tie) for tie in held) for held in told), False)
            told_of(tuple(tuple((tie,) for tie in held) for held in told), False)
            told_of(tuple(tuple([tie] for tie in held) for held in told), False)
            told_of("2103", False)

    def test_other_things(self):
        for thing in PLAIN_THINGS + deep_things():
            for kind in KINDS:
                self.told(FAN, FOUR, kind, (0, 1, 2, 3), thing, False)
                self.told(FAN, FOUR, kind, (), (thing,) * 4, type(thing) is tuple and thing == ())
                self.told(FAN, FOUR, kind, (0, 1), ((thing,),) * 4, False)
                self.told((2, ((0, 1),)), (0, 1), kind, (0,), (thing, ()), repr(thing) == "(0,)")
                self.told((2, ((0, 1),)), (0, 1), kind, (0,), ((thing,), ()), type(thing) is int and thing == 0)
                self.told((2, ((0, 1),)), (0, 1), kind, (0,), ((0,), thing), type(thing) is tuple and thing == ())

    def test_all_runs_of_small_webs(self):
        for web, rows in ((full(4), rows_of(4, 3)), (full(5), rows_of(5, 41))):
            for row in rows:
                for kind in KINDS:
                    for some in sets_of_ties(web)[::2]:
                        for thing in all_runs(web, row, kind, some):
                            self.told(web, row, kind, some, thing, True)

    # Everything that could be held behind three places is gone through.
    def test_all_things_of_three_places(self):
        held = [order for count in range(4) for order in itertools.permutations(range(3), count)]
        for row in rows_of(3, 2):
            for kind in KINDS:
                for some in sets_of_ties(full(3)):
                    runs = all_runs(full(3), row, kind, some)
                    for thing in itertools.product(held, repeat=3):
                        self.told(full(3), row, kind, some, thing, thing in runs)

    # Runs with any one part changed in any of some ways.
    def test_changed_runs(self):
        for web in twelve_tie_webs(230):
            for row in rows_of(6, 311):
                for kind in KINDS:
                    for some in sets_of_ties(web)[::101]:
                        for thing in all_runs(web, row, kind, some):
                            for other in changed_somewhere(thing):
                                self.told(web, row, kind, some, other, repr(other) == repr(thing))

    def test_webs_beyond_the_bounds(self):
        for web in webs_beyond():
            row = tuple(range(web[0]))
            for kind in KINDS:
                for tie in range(len(web[1])):
                    told = run(web, row, kind, (tie,))
                    self.told(web, row, kind, (tie,), told, True)
                    self.told(web, row, kind, (), told, False)
                    self.told(web, row, kind, (tie,), told[1:] + told[:1], False)

    def test_what_is_handed_in_stays(self):
        things = deep_things() + [[[2, 1, 0], [2, 1], [2, 3], []], ([2, 1, 0], (2, 1), [3, 2], ())]
        before = copy.deepcopy(things)
        for thing in things:
            self.fan(thing, False)
            self.fan_queue(thing, False)
        self.assertEqual(things, before)


if __name__ == "__main__":
    unittest.main()
