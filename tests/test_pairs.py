"""How two ties lie, which of them clash, and how many with one another: [0.2], [0.5], [2.1], [2.2]."""

import copy
import itertools
import unittest

from pageties.pairs import are_clashing, clashes, greatest, how
from tests.things import (
    KINDS, PLAIN_THINGS, clashing_pairs, deep_things, do_clash, full, lie, rows_of, twelve_tie_webs,
    webs_beyond, webs_of,
)

CROSSING = (6, ((0, 3), (1, 4), (2, 5)))
NESTED = (6, ((0, 5), (1, 4), (2, 3)))
SIX = (0, 1, 2, 3, 4, 5)


def most_clashing(web, row, kind):
    known = set(clashing_pairs(web, row, kind))
    for count in range(len(web[1]), 0, -1):
        for ties in itertools.combinations(range(len(web[1])), count):
            if all(pair in known for pair in itertools.combinations(ties, 2)):
                return count
    return 0


class How(unittest.TestCase):
    def lies(self, web, row, one, other, wanted):
        self.assertEqual(how(web, row, one, other), wanted, (web, row, one, other))
        self.assertEqual(how(web, row, other, one), wanted, (web, row, other, one))

    def test_four_places_in_their_order(self):
        self.lies((4, ((0, 2), (1, 3))), (0, 1, 2, 3), 0, 1, "cross")
        self.lies((4, ((0, 3), (1, 2))), (0, 1, 2, 3), 0, 1, "within")
        self.lies((4, ((0, 1), (2, 3))), (0, 1, 2, 3), 0, 1, "apart")
        self.lies((4, ((0, 1), (1, 3))), (0, 1, 2, 3), 0, 1, "meet")

    def test_each_way_to_place_two_ties_among_four_places(self):
        web = (4, ((0, 1), (2, 3)))
        for row, wanted in (
            ((0, 2, 1, 3), "cross"), ((2, 0, 3, 1), "cross"),
            ((0, 2, 3, 1), "within"), ((2, 0, 1, 3), "within"),
            ((0, 1, 2, 3), "apart"), ((2, 3, 0, 1), "apart"),
        ):
            self.lies(web, row, 0, 1, wanted)

    def test_every_row_of_four_places(self):
        for ties in (((0, 1), (2, 3)), ((0, 2), (1, 3)), ((0, 3), (1, 2))):
            told = []
            for row in rows_of(4):
                self.lies((4, ties), row, 0, 1, lie((4, ties), row, 0, 1))
                told.append(how((4, ties), row, 0, 1))
            self.assertEqual(sorted(told), ["apart"] * 8 + ["cross"] * 8 + ["within"] * 8)

    def test_ties_with_a_common_place(self):
        for row in rows_of(3):
            for one, other in itertools.combinations(range(3), 2):
                self.lies(full(3), row, one, other, "meet")
        for row in rows_of(5):
            self.lies((5, ((1, 3), (3, 4))), row, 0, 1, "meet")
            self.lies((5, ((0, 2), (0, 4))), row, 0, 1, "meet")

    def test_all_pairs_of_all_ties(self):
        for many, step in ((4, 1), (5, 7), (6, 37)):
            for row in rows_of(many, step):
                web = full(many)
                for one, other in itertools.combinations(range(len(web[1])), 2):
                    self.lies(web, row, one, other, lie(web, row, one, other))

    def test_more_than_six_places(self):
        for many in (7, 8, 9):
            for row in rows_of(many, 50021 if many == 9 else 2003):
                web = full(many)
                for one, other in itertools.combinations(range(len(web[1])), 2):
                    self.lies(web, row, one, other, lie(web, row, one, other))
        far = (30, ((0, 29), (3, 15), (10, 20), (21, 22)))
        order = tuple(range(30))
        self.lies(far, order, 1, 2, "cross")
        self.lies(far, order, 0, 2, "within")
        self.lies(far, order, 1, 3, "apart")
        self.lies(far, order[::-1], 1, 2, "cross")


class Clashes(unittest.TestCase):
    def holds(self, web, row, kind):
        told = clashes(web, row, kind)
        self.assertIs(type(told), tuple)
        self.assertEqual(told, clashing_pairs(web, row, kind), (web, row, kind))

    def test_plain_ones(self):
        self.assertEqual(clashes(CROSSING, SIX, "pile"), ((0, 1), (0, 2), (1, 2)))
        self.assertEqual(clashes(CROSSING, SIX, "queue"), ())
        self.assertEqual(clashes(NESTED, SIX, "queue"), ((0, 1), (0, 2), (1, 2)))
        self.assertEqual(clashes(NESTED, SIX, "pile"), ())

    def test_rising_whatever_the_row(self):
        for row in rows_of(6, 11):
            for web in (CROSSING, NESTED, full(6)):
                for kind in KINDS:
                    told = clashes(web, row, kind)
                    self.assertEqual(list(told), sorted(set(told)))
                    for one, other in told:
                        self.assertLess(one, other)

    def test_no_two_clash(self):
        for kind in KINDS:
            for row in rows_of(4):
                self.assertEqual(clashes((4, ((0, 1), (0, 2), (0, 3))), row, kind), ())
                self.assertEqual(clashes((4, ((1, 2),)), row, kind), ())
            self.assertEqual(clashes((6, ((0, 1), (2, 3), (4, 5))), SIX, kind), ())

    def test_no_ties(self):
        for kind in KINDS:
            for many in (1, 2, 6, 9):
                self.assertEqual(clashes((many, ()), tuple(range(many)), kind), ())

    def test_all_webs_of_four_places(self):
        for web in webs_of(4):
            for row in rows_of(4):
                for kind in KINDS:
                    self.holds(web, row, kind)

    def test_larger_webs(self):
        for kind in KINDS:
            for row in rows_of(5):
                self.holds(full(5), row, kind)
            for web in twelve_tie_webs(50):
                for row in rows_of(6, 97):
                    self.holds(web, row, kind)

    def test_webs_beyond_the_bounds(self):
        for web in webs_beyond():
            for row in (tuple(range(web[0])), tuple(range(1, web[0], 2)) + tuple(range(0, web[0], 2))):
                for kind in KINDS:
                    self.holds(web, row, kind)


class Greatest(unittest.TestCase):
    def each_two_clash(self, web, row, kind, told):
        self.assertIs(type(told), tuple)
        for tie in told:
            self.assertIs(type(tie), int)
            self.assertIn(tie, range(len(web[1])))
        self.assertEqual(list(told), sorted(set(told)))
        for one, other in itertools.combinations(told, 2):
            self.assertTrue(do_clash(web, row, kind, one, other), (web, row, kind, told))
        self.assertIs(are_clashing(web, row, kind, told), True)

    def holds(self, web, row, kind):
        told = greatest(web, row, kind)
        self.each_two_clash(web, row, kind, told)
        self.assertEqual(len(told), most_clashing(web, row, kind), (web, row, kind))
        self.assertEqual(greatest(web, row, kind), told)

    def test_plain_ones(self):
        self.assertEqual(greatest(CROSSING, SIX, "pile"), (0, 1, 2))
        self.assertEqual(greatest(NESTED, SIX, "queue"), (0, 1, 2))

    def test_rising_where_the_ties_begin_in_another_order(self):
        self.assertEqual(greatest(CROSSING, (2, 1, 0, 5, 4, 3), "pile"), (0, 1, 2))
        self.assertEqual(greatest(NESTED, (2, 1, 0, 5, 4, 3), "queue"), (0, 1, 2))

    def test_no_tie(self):
        for kind in KINDS:
            for many in (1, 2, 6, 9):
                self.assertEqual(greatest((many, ()), tuple(range(many)), kind), ())

    def test_no_two_clash(self):
        for kind in KINDS:
            for row in rows_of(4):
                self.assertEqual(greatest((4, ((1, 2),)), row, kind), (0,))
                told = greatest((4, ((0, 1), (0, 2), (0, 3))), row, kind)
                self.assertIn(told, ((0,), (1,), (2,)))
        self.assertEqual(len(greatest(NESTED, SIX, "pile")), 1)
        self.assertEqual(len(greatest(CROSSING, SIX, "queue")), 1)

    def test_ties_that_clash_by_turns_only(self):
        ring = (5, ((0, 2), (0, 3), (1, 3), (1, 4), (2, 4)))
        self.assertEqual(len(greatest(ring, (0, 1, 2, 3, 4), "pile")), 2)

    def test_all_webs_of_one_to_four_places(self):
        for many in range(1, 5):
            for web in webs_of(many):
                for row in rows_of(many):
                    for kind in KINDS:
                        self.holds(web, row, kind)

    def test_larger_webs(self):
        for kind in KINDS:
            for row in rows_of(5, 3):
                self.holds(full(5), row, kind)
                self.holds((5, full(5)[1][::2]), row, kind)
            for web in twelve_tie_webs(70):
                for row in rows_of(6, 101):
                    self.holds(web, row, kind)

    def test_webs_beyond_the_bounds(self):
        for kind in KINDS:
            for row in rows_of(7, 1009):
                self.holds((7, full(7)[1][1:15]), row, kind)
        for many in (6, 7, 8, 11, 20):
            for kind in KINDS:
                row = tuple(range(many))
                told = greatest(full(many), row, kind)
                self.each_two_clash(full(many), row, kind, told)
                self.assertEqual(len(told), many // 2)


class AreClashing(unittest.TestCase):
    def told(self, web, row, kind, thing, wanted):
        self.assertIs(are_clashing(web, row, kind, thing), wanted, (web, row, kind, thing))

    def test_plain_ones(self):
        for ties in ((), (0,), (1,), (2,), (0, 1), (0, 2), (1, 2), (0, 1, 2)):
            self.told(CROSSING, SIX, "pile", ties, True)
            self.told(NESTED, SIX, "queue", ties, True)
            self.told(CROSSING, SIX, "queue", ties, len(ties) < 2)
            self.told(NESTED, SIX, "pile", ties, len(ties) < 2)

    def test_all_sets_of_ties(self):
        for web, rows in ((full(4), rows_of(4)), (full(5), rows_of(5, 29)), (full(7), rows_of(7, 2503))):
            for row in rows:
                for kind in KINDS:
                    known = set(clashing_pairs(web, row, kind))
                    for count in range(4):
                        for ties in itertools.combinations(range(len(web[1])), count):
                            wanted = all(pair in known for pair in itertools.combinations(ties, 2))
                            self.told(web, row, kind, ties, wanted)

    def test_ties_of_which_two_alone_do_not_clash(self):
        web = (8, ((0, 4), (1, 5), (2, 3), (6, 7)))
        row = (0, 1, 2, 6, 4, 3, 5, 7)
        self.assertEqual(clashes(web, row, "pile"), ((0, 1), (0, 2), (0, 3), (1, 3), (2, 3)))
        self.told(web, row, "pile", (0, 1, 3), True)
        self.told(web, row, "pile", (0, 2, 3), True)
        self.told(web, row, "pile", (0, 1, 2, 3), False)
        self.told(web, row, "pile", (0, 1, 2), False)
        self.told(web, row, "pile", (1, 2), False)

    def test_tuples_that_fall_or_name_a_tie_twice(self):
        for thing in ((1, 0), (2, 1, 0), (0, 2, 1), (0, 0), (2, 2), (0, 1, 1), (0, 1, 0), (0, 1, 2, 2)):
            self.told(CROSSING, SIX, "pile", thing, False)
            self.told(NESTED, SIX, "queue", thing, False)

    def test_numbers_that_are_no_ties(self):
        for thing in ((-1,), (3,), (-1, 0), (0, 3), (0, 1, 2, 3), (-3, -2, -1), (10 ** 50,), (-(10 ** 50), 0)):
            self.told(CROSSING, SIX, "pile", thing, False)
            self.told(NESTED, SIX, "queue", thing, False)
        self.told((2, ()), (0, 1), "pile", (0,), False)
        self.told((2, ()), (0, 1), "queue", (), True)

    def test_truths(self):
        for thing in (True, False, (True,), (False,), (0, True), (False, 1), (False, True, 2), (0, True, 2)):
            self.told(CROSSING, SIX, "pile", thing, False)
            self.told(NESTED, SIX, "queue", thing, False)

    def test_lists_and_texts(self):
        for thing in ([], [0], [0, 1], "", "0", "01", ("0",), ("0", "1"), ([0], [1]), ((0, 1),), ([],), ((),)):
            self.told(CROSSING, SIX, "pile", thing, False)
            self.told(NESTED, SIX, "queue", thing, False)

    def test_other_things(self):
        one_tie = (2, ((0, 1),))
        for thing in PLAIN_THINGS + deep_things():
            for kind in KINDS:
                is_single = isinstance(thing, tuple) and len(thing) == 1 and isinstance(thing[0], int)
                right = is_single and not isinstance(thing[0], bool) and thing[0] == 0
                self.told(one_tie, (1, 0), kind, thing, right or isinstance(thing, tuple) and thing == ())
                self.told(one_tie, (1, 0), kind, (0, thing), False)
                self.told((2, ()), (1, 0), kind, (thing,), False)

    def test_other_things_as_a_part(self):
        for part in PLAIN_THINGS + deep_things():
            if isinstance(part, bool) or part != 1:
                self.told(CROSSING, SIX, "pile", (0, part, 2), False)
            if isinstance(part, bool) or part != 2:
                self.told(NESTED, SIX, "queue", (0, 1, part), False)

    def test_what_is_handed_in_stays(self):
        things = deep_things() + [[2, 1, 0], ([1, 0],), (0, [2, 1])]
        before = copy.deepcopy(things)
        for thing in things:
            for kind in KINDS:
                self.assertIs(
                    are_clashing(CROSSING, SIX, kind, thing), are_clashing(CROSSING, SIX, kind, thing))
        self.assertEqual(things, before)


if __name__ == "__main__":
    unittest.main()
