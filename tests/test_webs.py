"""Webs and rows told from all other things: [0.3], [0.4], [1.1]."""

import copy
import itertools
import unittest

from pageties.webs import is_row, is_web
from tests.things import PLAIN_THINGS, deep_things

PAIRS_OF_SIX = tuple(itertools.combinations(range(6), 2))
FULL_OF_EIGHT = (8, tuple(itertools.combinations(range(8), 2)))


class Answers(unittest.TestCase):
    def told(self, answer, wanted, thing):
        self.assertIs(answer, wanted, repr(thing))

    def web(self, thing):
        self.told(is_web(thing), True, thing)

    def no_web(self, thing):
        self.told(is_web(thing), False, thing)

    def row(self, web, thing):
        self.told(is_row(web, thing), True, (web, thing))

    def no_row(self, web, thing):
        self.told(is_row(web, thing), False, (web, thing))


class Webs(Answers):
    def test_ordinary_webs(self):
        self.web((3, ((0, 1), (0, 2))))
        self.web((4, ((0, 2), (1, 3))))
        self.web((5, ((0, 4), (1, 2), (1, 3), (3, 4))))

    def test_each_number_of_places(self):
        for many in range(1, 7):
            self.web((many, ()))
        for many in (0, -1, -6, 7, 8, 100, 10 ** 50, -(10 ** 50)):
            self.no_web((many, ()))

    def test_seven_places_with_ties(self):
        self.web((6, ((0, 1), (4, 5))))
        self.no_web((7, ((0, 1), (4, 5))))
        self.no_web((7, ((0, 6),)))

    def test_each_number_of_ties(self):
        for count in range(13):
            self.web((6, PAIRS_OF_SIX[:count]))
            self.web((6, PAIRS_OF_SIX[15 - count:]))
        for count in (13, 14, 15):
            self.no_web((6, PAIRS_OF_SIX[:count]))
            self.no_web((6, PAIRS_OF_SIX[15 - count:]))

    def test_each_choice_of_twelve_and_of_thirteen_ties(self):
        for ties in itertools.combinations(PAIRS_OF_SIX, 12):
            self.web((6, ties))
        for ties in itertools.combinations(PAIRS_OF_SIX, 13):
            self.no_web((6, ties))

    def test_places_beyond_the_web(self):
        for many in range(1, 7):
            self.no_web((many, ((0, many),)))
            self.no_web((many, ((many - 1, many),)))
            self.no_web((many, ((-1, 0),)))
            self.no_web((many, ((-2, -1),)))
            self.no_web((many, ((many, many + 1),)))
        self.no_web((3, ((0, 1), (0, 3))))
        self.no_web((3, ((-1, 2), (0, 1))))
        self.no_web((3, ((0, 10 ** 50),)))

    def test_a_place_tied_to_itself(self):
        for many in range(1, 7):
            for place in range(many):
                self.no_web((many, ((place, place),)))
        self.no_web((3, ((0, 1), (1, 1), (1, 2))))

    def test_the_first_place_greater(self):
        self.no_web((2, ((1, 0),)))
        self.no_web((3, ((0, 1), (2, 1))))
        self.no_web((6, ((5, 0),)))

    def test_a_tie_twice(self):
        self.no_web((2, ((0, 1), (0, 1))))
        self.no_web((3, ((0, 1), (1, 2), (1, 2))))
        self.no_web((3, ((0, 1), (1, 2), (0, 1))))

    def test_ties_that_do_not_rise(self):
        self.no_web((3, ((0, 2), (0, 1))))
        self.no_web((3, ((1, 2), (0, 1))))
        self.no_web((4, ((0, 1), (2, 3), (1, 2))))
        for order in itertools.permutations(((0, 1), (0, 2), (1, 2))):
            self.told(is_web((3, order)), order == ((0, 1), (0, 2), (1, 2)), order)

    def test_all_small_webs(self):
        for many in (1, 2, 3):
            right = tuple(itertools.combinations(range(many), 2))
            webs = {
                (many, ties)
                for count in range(len(right) + 1)
                for ties in itertools.combinations(right, count)
            }
            pairs = tuple(itertools.product(range(-1, many + 1), repeat=2))
            for count in range(3 if many == 3 else 4):
                for ties in itertools.product(pairs, repeat=count):
                    thing = (many, ties)
                    self.told(is_web(thing), thing in webs, thing)


class ThingsThatAreNoWebs(Answers):
    def test_other_kinds(self):
        for thing in PLAIN_THINGS:
            self.no_web(thing)

    def test_other_kinds_as_a_part(self):
        for part in PLAIN_THINGS + deep_things():
            if part not in range(1, 7) or isinstance(part, bool):
                self.no_web((part, ()))
            if part != ():
                self.no_web((2, part))
            self.no_web((2, (part,)))
            self.no_web((2, ((0, 1), part)))
            if part != 1 or isinstance(part, bool):
                self.no_web((2, ((0, part),)))
            if part != 0 or isinstance(part, bool):
                self.no_web((2, ((part, 1),)))

    def test_tuples_too_short_or_too_long(self):
        for thing in ((), (2,), (2, (), ()), (2, ((0, 1),), None), (2, (0, 1)), ((2, ()),)):
            self.no_web(thing)
        for tie in ((), (0,), (0, 1, 2), (0, 1, 1), ((0, 1),)):
            self.no_web((3, (tie,)))

    def test_a_truth_for_a_whole_number(self):
        self.no_web((True, ()))
        self.no_web((False, ()))
        self.no_web((2, ((0, True),)))
        self.no_web((2, ((False, 1),)))
        self.no_web((2, ((False, True),)))
        self.no_web((3, ((0, 1), (True, 2))))
        self.no_web((2, True))
        self.no_web((2, False))

    def test_a_list_for_a_tuple_at_each_depth(self):
        self.web((2, ((0, 1),)))
        self.no_web([2, ((0, 1),)])
        self.no_web((2, [(0, 1)]))
        self.no_web((2, ([0, 1],)))
        self.no_web([2, [[0, 1]]])
        self.no_web((1, []))
        self.no_web([1, ()])
        self.no_web((3, ((0, 1), [0, 2])))

    def test_texts_for_numbers_and_tuples(self):
        self.no_web(("2", ()))
        self.no_web((2, ""))
        self.no_web((2, "01"))
        self.no_web((2, ("01",)))
        self.no_web((2, (("0", "1"),)))
        self.no_web((2, ((0, "1"),)))

    def test_none_for_a_part(self):
        self.no_web((None, ()))
        self.no_web((2, None))
        self.no_web((2, (None,)))
        self.no_web((2, ((0, None),)))
        self.no_web((2, ((None, 1),)))

    def test_deep_things(self):
        for thing in deep_things():
            self.no_web(thing)
            self.no_web((thing, thing))


class Rows(Answers):
    def test_each_order_of_all_places(self):
        for many in range(1, 7):
            for order in itertools.permutations(range(many)):
                self.row((many, ()), order)
        self.row((3, ((0, 1), (0, 2))), (2, 0, 1))

    def test_each_small_tuple(self):
        for many in (1, 2, 3):
            rows = set(itertools.permutations(range(many)))
            for count in range(many + 2):
                for places in itertools.product(range(-1, many + 1), repeat=count):
                    self.told(is_row((many, ()), places), places in rows, (many, places))

    def test_a_place_missing(self):
        self.no_row((1, ()), ())
        self.no_row((3, ()), (0, 1))
        self.no_row((3, ()), (1, 2))
        self.no_row((6, PAIRS_OF_SIX[:12]), (0, 1, 2, 3, 4))

    def test_a_place_twice(self):
        self.no_row((2, ()), (0, 0))
        self.no_row((2, ()), (0, 1, 1))
        self.no_row((3, ()), (0, 1, 1))
        self.no_row((6, ()), (5, 4, 3, 2, 1, 5))

    def test_a_place_beyond(self):
        self.no_row((1, ()), (1,))
        self.no_row((3, ()), (0, 1, 3))
        self.no_row((3, ()), (1, 2, 3))
        self.no_row((3, ()), (-1, 0, 1))
        self.no_row((3, ()), (0, 1, -1))
        self.no_row((3, ()), (0, 1, 2, 3))
        self.no_row((3, ()), (0, 1, 10 ** 50))

    def test_a_truth_for_a_place(self):
        self.no_row((1, ()), (False,))
        self.no_row((2, ()), (0, True))
        self.no_row((2, ()), (False, 1))
        self.no_row((2, ()), (True, False))
        self.no_row((3, ()), (2, True, 0))

    def test_other_kinds(self):
        for web in ((1, ()), (2, ((0, 1),)), (6, PAIRS_OF_SIX[:12]), FULL_OF_EIGHT):
            for thing in PLAIN_THINGS + deep_things():
                if not (web[0] == 1 and isinstance(thing, tuple) and thing == (0,)):
                    self.no_row(web, thing)

    def test_other_kinds_for_a_place(self):
        for part in PLAIN_THINGS + deep_things():
            if isinstance(part, bool) or part != 1:
                self.no_row((2, ()), (0, part))
                self.no_row((3, ()), (part, 2, 0))

    def test_lists_and_texts(self):
        self.no_row((1, ()), [0])
        self.no_row((3, ()), [0, 1, 2])
        self.no_row((3, ()), [2, 1, 0])
        self.no_row((3, ()), "012")
        self.no_row((3, ()), ("0", "1", "2"))
        self.no_row((2, ()), ([0], [1]))
        self.no_row((2, ()), ((0, 1), (0, 1)))
        self.no_row((2, ()), ((0, 1),))

    def test_webs_of_more_places_and_ties(self):
        self.row((6, PAIRS_OF_SIX), (3, 1, 5, 0, 2, 4))
        for many in (7, 8, 12, 30):
            web = (many, tuple(itertools.combinations(range(many), 2)))
            self.row(web, tuple(range(many)))
            self.row(web, tuple(reversed(range(many))))
            self.row(web, tuple(range(3, many)) + (2, 0, 1))
            self.no_row(web, tuple(range(many - 1)))
            self.no_row(web, tuple(range(many + 1)))
            self.no_row(web, tuple(range(1, many + 1)))
            self.no_row(web, tuple(range(many - 1)) + (0,))
            self.no_row(web, (0, True) + tuple(range(2, many)))
            self.no_row(web, list(range(many)))
            self.no_row(web, many)


class NothingChanged(Answers):
    def test_what_is_handed_in_stays(self):
        things = deep_things() + [[2, [[1, 0]]], (2, [(0, 1)]), [2, 1, 0], ([2, 0, 1],)]
        before = copy.deepcopy(things)
        for thing in things:
            is_web(thing)
            is_row((3, ()), thing)
        self.assertEqual(things, before)

    def test_the_same_is_told_again(self):
        for _ in range(3):
            self.web((3, ((0, 1), (0, 2))))
            self.no_web((3, ((0, 2), (0, 1))))
            self.row((3, ()), (2, 0, 1))
            self.no_row((3, ()), (2, 0, 2))


if __name__ == "__main__":
    unittest.main()
