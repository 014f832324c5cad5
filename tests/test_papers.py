"""Papers that so many pages are not enough: [0.2], [4.1]."""

import copy
import itertools
import unittest

from pageties.pages import fewest_pages, page_count
from pageties.papers import is_paper, paper_against
from tests.things import (
    KINDS, PLAIN_THINGS, changed_somewhere, clashing_pairs, deep_things, do_clash, full, is_enough, is_plainly_made,
    rows_of, twelve_tie_webs, webs_beyond, webs_of,
)

CROSSING = (6, ((0, 3), (1, 4), (2, 5)))
NESTED = (6, ((0, 5), (1, 4), (2, 3)))
SIX = (0, 1, 2, 3, 4, 5)

# Its five ties cross in a ring: no three cross, each two, and yet two pages are not enough.
RING = (5, ((0, 2), (0, 3), (1, 3), (1, 4), (2, 4)))
FIVE = (0, 1, 2, 3, 4)

# Ties 0 and 2 cross, tie 1 crosses none.
COUPLE = (6, ((0, 2), (0, 5), (1, 3)))

# The only papers against one page for two ties that clash.
ONE_FIRST = ("tie", 0, (("tie", 1, (("clash", 0, 1),)),))
OTHER_FIRST = ("tie", 1, (("tie", 0, (("clash", 0, 1),)),))

# For three ties each two of which clash, against two pages.
AGAINST_TWO = (
    "tie", 0, (
        ("tie", 1, (
            ("clash", 0, 1),
            ("tie", 2, (("clash", 0, 2), ("clash", 1, 2))),
        )),
    ),
)


def pages_open(pages, many):
    had = sorted(set(pages.values()))
    return [page for page in had + [len(had)] if page < many]


def is_number_of_a_tie(web, thing):
    return type(thing) is int and thing in range(len(web[1]))


# [4.1], word by word; pages are those of the ties that have one already.
def reads_as_paper(web, row, kind, many, thing, pages):
    if type(thing) is not tuple or len(thing) != 3:
        return False
    if thing[0] == "clash":
        one, other = thing[1:]
        if not is_number_of_a_tie(web, one) or not is_number_of_a_tie(web, other) or not one < other:
            return False
        has_page = one in pages and other in pages
        return has_page and pages[one] == pages[other] and do_clash(web, row, kind, one, other)
    if thing[0] == "tie":
        tie, papers = thing[1:]
        if not is_number_of_a_tie(web, tie) or tie in pages or type(papers) is not tuple:
            return False
        opened = pages_open(pages, many)
        return len(papers) == len(opened) and all(
            reads_as_paper(web, row, kind, many, paper, {**pages, tie: page}) for page, paper in zip(opened, papers)
        )
    return False


# Every paper there is, made from the words of [4.1].
def all_papers(web, row, kind, many, pages):
    for one, other in clashing_pairs(web, row, kind):
        if one in pages and other in pages and pages[one] == pages[other]:
            yield ("clash", one, other)
    for tie in range(len(web[1])):
        if tie not in pages:
            choices = [
                list(all_papers(web, row, kind, many, {**pages, tie: page})) for page in pages_open(pages, many)
            ]
            for papers in itertools.product(*choices):
                yield ("tie", tie, papers)


# A paper in which the ties are laid in the given order, and a clash is shown as soon as there is one,
# or only behind the last tie.
def paper_in_order(web, row, kind, many, order, waits, pages):
    shown = [
        ("clash", one, other)
        for one, other in clashing_pairs(web, row, kind)
        if one in pages and other in pages and pages[one] == pages[other]
    ]
    if shown and (not waits or not order):
        return shown[-1]
    return ("tie", order[0], tuple(
        paper_in_order(web, row, kind, many, order[1:], waits, {**pages, order[0]: page})
        for page in pages_open(pages, many)
    ))


def pages_needed(web, row, kind):
    return page_count(fewest_pages(web, row, kind))


class PaperAgainst(unittest.TestCase):
    def is_told(self, web, row, kind, many):
        told = paper_against(web, row, kind, many)
        asked = (web, row, kind, many, told)
        self.assertTrue(reads_as_paper(web, row, kind, many, told, {}), asked)
        self.assertIs(is_paper(web, row, kind, many, told), True, asked)
        self.assertTrue(is_plainly_made(told), asked)
        self.assertEqual(paper_against(web, row, kind, many), told)

    def holds(self, web, row, kind):
        needed = pages_needed(web, row, kind)
        for many in range(needed):
            self.is_told(web, row, kind, many)
        for many in (needed, needed + 1, needed + 2, needed + 40, 10 ** 50):
            self.assertIsNone(paper_against(web, row, kind, many), (web, row, kind, many))

    def test_no_ties(self):
        for kind in KINDS:
            for places in (1, 2, 6, 9):
                for many in (0, 1, 2, 3, 12):
                    self.assertIsNone(paper_against((places, ()), tuple(range(places)), kind, many))

    def test_one_tie(self):
        for kind in KINDS:
            for row in rows_of(4):
                web = (4, ((1, 3),))
                self.assertEqual(paper_against(web, row, kind, 0), ("tie", 0, ()))
                for many in (1, 2, 3, 12):
                    self.assertIsNone(paper_against(web, row, kind, many))

    def test_against_no_pages(self):
        for kind in KINDS:
            for web, row in ((CROSSING, SIX), (NESTED, SIX), (RING, FIVE), (full(5), FIVE)):
                told = paper_against(web, row, kind, 0)
                self.assertEqual((told[0], told[2]), ("tie", ()))
                self.assertIn(told[1], range(len(web[1])))
                self.assertIs(is_paper(web, row, kind, 0, told), True)

    def test_two_ties_that_clash(self):
        self.assertIn(paper_against((4, ((0, 2), (1, 3))), (0, 1, 2, 3), "pile", 1), (ONE_FIRST, OTHER_FIRST))
        self.assertIn(paper_against((4, ((0, 3), (1, 2))), (0, 1, 2, 3), "queue", 1), (ONE_FIRST, OTHER_FIRST))
        self.assertIsNone(paper_against((4, ((0, 2), (1, 3))), (0, 1, 2, 3), "queue", 1))
        self.assertIsNone(paper_against((4, ((0, 3), (1, 2))), (0, 1, 2, 3), "pile", 1))

    def test_three_ties_that_clash(self):
        for web, kind in ((CROSSING, "pile"), (NESTED, "queue")):
            for many in range(3):
                self.assertIn(paper_against(web, SIX, kind, many), list(all_papers(web, SIX, kind, many, {})))
            self.assertIsNone(paper_against(web, SIX, kind, 3))

    def test_more_piles_than_ties_that_cross_each_two(self):
        self.assertEqual(pages_needed(RING, FIVE, "pile"), 3)
        self.is_told(RING, FIVE, "pile", 2)
        self.holds(RING, FIVE, "pile")

    def test_none_just_where_so_many_are_enough(self):
        for places in range(1, 5):
            for web in webs_of(places):
                for row in rows_of(places, 3):
                    for kind in KINDS:
                        for many in range(4):
                            told = paper_against(web, row, kind, many)
                            self.assertIs(told is None, is_enough(web, row, kind, many), (web, row, kind, many))

    def test_all_webs_of_one_to_four_places(self):
        for places in range(1, 5):
            for web in webs_of(places):
                for row in rows_of(places, 5):
                    for kind in KINDS:
                        self.holds(web, row, kind)

    def test_webs_of_five_places(self):
        for web in webs_of(5)[::11]:
            for row in rows_of(5, 17):
                for kind in KINDS:
                    self.holds(web, row, kind)

    def test_six_places_with_nine_and_twelve_ties(self):
        nine = [(6, ties) for ties in itertools.islice(itertools.combinations(full(6)[1], 9), 0, None, 250)]
        for web in nine + twelve_tie_webs(20):
            for row in rows_of(6, 71):
                for kind in KINDS:
                    self.holds(web, row, kind)

    def test_webs_beyond_the_bounds(self):
        for web in webs_beyond() + [full(9), full(10)]:
            for row in (tuple(range(web[0])), tuple(range(1, web[0], 2)) + tuple(range(0, web[0], 2))):
                for kind in KINDS:
                    self.holds(web, row, kind)

    # Beside one another: a group that takes three pages, and many that take two, in either order.
    def test_groups_that_do_not_clash(self):
        couples = [((k, k + 2), (k + 1, k + 3)) for k in range(5, 65, 4)]
        web = (70, tuple(sorted(list(RING[1]) + [tie for couple in couples for tie in couple])))
        for row in (tuple(range(70)), tuple(range(70))[::-1], tuple(range(5, 70)) + FIVE):
            self.holds(web, row, "pile")
            self.holds(web, row, "queue")
        late = tuple((one + 60, other + 60) for one, other in RING[1])
        early = [((k, k + 2), (k + 1, k + 3)) for k in range(0, 60, 4)]
        self.holds((65, tuple(tie for couple in early for tie in couple) + late), tuple(range(65)), "pile")


class IsPaper(unittest.TestCase):
    def told(self, web, row, kind, many, thing, wanted):
        self.assertIs(is_paper(web, row, kind, many, thing), wanted, (web, row, kind, many, thing))

    def for_both(self, many, thing, wanted):
        self.told(CROSSING, SIX, "pile", many, thing, wanted)
        self.told(NESTED, SIX, "queue", many, thing, wanted)

    def read_plainly(self, web, row, kind, many, thing):
        self.told(web, row, kind, many, thing, reads_as_paper(web, row, kind, many, thing, {}))

    def test_plain_ones(self):
        self.for_both(0, ("tie", 0, ()), True)
        self.for_both(0, ("tie", 2, ()), True)
        self.for_both(1, ONE_FIRST, True)
        self.for_both(1, OTHER_FIRST, True)
        self.for_both(1, ("tie", 2, (("tie", 0, (("clash", 0, 2),)),)), True)
        self.for_both(2, AGAINST_TWO, True)

    def test_the_other_kind(self):
        for many, thing in ((1, ONE_FIRST), (1, OTHER_FIRST), (2, AGAINST_TWO)):
            self.told(CROSSING, SIX, "queue", many, thing, False)
            self.told(NESTED, SIX, "pile", many, thing, False)

    def test_against_other_numbers(self):
        for many in (1, 2, 3, 12, 10 ** 50):
            self.for_both(many, ("tie", 0, ()), False)
        for many in (0, 2, 3, 12, 10 ** 50):
            self.for_both(many, ONE_FIRST, False)
        for many in (0, 1, 3, 4, 12, 10 ** 50):
            self.for_both(many, AGAINST_TWO, False)

    # Ties may go on being laid where two clash already, and either clash may then be shown.
    def test_clashes_shown_late(self):
        def with_last(paper):
            return ("tie", 0, (("tie", 1, (("tie", 2, (paper,)),)),))

        for pair in ((0, 1), (0, 2), (1, 2)):
            self.for_both(1, with_last(("clash",) + pair), True)
        self.told(COUPLE, SIX, "pile", 1, with_last(("clash", 0, 2)), True)
        self.told(COUPLE, SIX, "pile", 1, with_last(("clash", 0, 1)), False)
        self.told(COUPLE, SIX, "pile", 1, with_last(("clash", 1, 2)), False)
        self.told(COUPLE, SIX, "pile", 1, ("tie", 2, (("tie", 0, (("clash", 0, 2),)),)), True)

    def test_no_paper_at_the_beginning_without_a_tie(self):
        for pair in itertools.permutations(range(3), 2):
            for many in range(4):
                self.for_both(many, ("clash",) + pair, False)

    def test_too_few_or_too_many_papers(self):
        clash = ("clash", 0, 1)
        self.for_both(0, ("tie", 0, (ONE_FIRST,)), False)
        self.for_both(0, ("tie", 0, (("tie", 1, ()),)), False)
        self.for_both(1, ("tie", 0, ()), False)
        self.for_both(1, ("tie", 0, (("tie", 1, ()),)), False)
        self.for_both(1, ("tie", 0, (("tie", 1, (clash, clash)),)), False)
        self.for_both(1, ("tie", 0, (("tie", 1, (clash,)), ("tie", 1, (clash,)))), False)
        second = AGAINST_TWO[2][0]
        third = second[2][1]
        self.for_both(2, ("tie", 0, (second, second)), False)
        self.for_both(2, ("tie", 0, (("tie", 1, (clash,)),)), False)
        self.for_both(2, ("tie", 0, (("tie", 1, (third,)),)), False)
        self.for_both(2, ("tie", 0, (("tie", 1, (clash, third, third)),)), False)
        for papers in (third[2][:1], third[2][1:], third[2] + third[2][:1], third[2] + third[2][1:], third[2] * 2):
            self.for_both(2, ("tie", 0, (("tie", 1, (clash, ("tie", 2, papers))),)), False)

    def test_papers_in_another_order(self):
        clash, third = AGAINST_TWO[2][0][2]
        self.for_both(2, ("tie", 0, (("tie", 1, (third, clash)),)), False)
        self.for_both(2, ("tie", 0, (("tie", 1, (clash, ("tie", 2, third[2][::-1]))),)), False)
        self.for_both(2, ("tie", 0, (("tie", 1, (third[2][0], ("tie", 2, (clash, clash)))),)), False)

    def test_a_tie_that_has_a_page(self):
        self.for_both(1, ("tie", 0, (("tie", 0, (("clash", 0, 1),)),)), False)
        self.for_both(1, ("tie", 0, (("tie", 1, (("tie", 0, (("clash", 0, 1),)),)),)), False)
        self.for_both(1, ("tie", 0, (("tie", 1, (("tie", 1, (("clash", 0, 1),)),)),)), False)
        self.for_both(1, ("tie", 0, (("tie", 1, (("tie", 2, (("tie", 0, (("clash", 0, 1),)),)),)),)), False)

    def test_a_tie_that_has_no_page_in_a_clash(self):
        self.for_both(1, ("tie", 0, (("clash", 0, 1),)), False)
        self.for_both(1, ("tie", 1, (("clash", 0, 1),)), False)
        self.for_both(1, ("tie", 0, (("clash", 1, 2),)), False)
        self.for_both(1, ("tie", 0, (("tie", 1, (("clash", 0, 2),)),)), False)
        self.for_both(1, ("tie", 0, (("tie", 1, (("clash", 1, 2),)),)), False)

    def test_a_clash_that_is_none(self):
        def against_one(one, other):
            return ("tie", 0, (("tie", 1, (("clash", one, other),)),))

        def against_two(last):
            return ("tie", 0, (("tie", 1, (("clash", 0, 1), ("tie", 2, last))),))

        self.for_both(1, against_one(0, 1), True)
        for one, other in ((1, 0), (0, 0), (1, 1)):
            self.for_both(1, against_one(one, other), False)
        unlike_pages = ((("clash", 0, 1), ("clash", 1, 2)), (("clash", 0, 2), ("clash", 0, 1)),
                        (("clash", 1, 2), ("clash", 1, 2)), (("clash", 0, 2), ("clash", 0, 2)))
        for last in unlike_pages:
            self.for_both(2, against_two(last), False)
        self.told(COUPLE, SIX, "pile", 1, against_one(0, 1), False)
        self.told(COUPLE, SIX, "queue", 1, against_one(0, 1), False)
        self.told((4, ((0, 1), (2, 3))), (0, 1, 2, 3), "pile", 1, against_one(0, 1), False)
        self.told((4, ((0, 1), (2, 3))), (0, 1, 2, 3), "queue", 1, against_one(0, 1), False)

    def test_truths(self):
        self.for_both(0, ("tie", False, ()), False)
        self.for_both(0, ("tie", True, ()), False)
        self.for_both(1, ("tie", False, (("tie", 1, (("clash", 0, 1),)),)), False)
        self.for_both(1, ("tie", 0, (("tie", True, (("clash", 0, 1),)),)), False)
        self.for_both(1, ("tie", 0, (("tie", 1, (("clash", False, 1),)),)), False)
        self.for_both(1, ("tie", 0, (("tie", 1, (("clash", 0, True),)),)), False)
        self.for_both(1, ("tie", 0, (("tie", 1, (("clash", False, True),)),)), False)
        for truth in (True, False):
            self.for_both(0, ("tie", 0, truth), False)
            self.for_both(0, (truth, 0, ()), False)
            self.for_both(0, truth, False)

    def test_numbers_that_are_no_ties(self):
        for number in (-1, -3, 3, 4, 12, 10 ** 50, -(10 ** 50)):
            self.for_both(0, ("tie", number, ()), False)
            self.for_both(1, ("tie", number, (("tie", 1, (("clash", 0, 1),)),)), False)
            self.for_both(1, ("tie", 0, (("tie", 1, (("clash", 0, number),)),)), False)
            self.for_both(1, ("tie", 0, (("tie", 1, (("clash", number, 1),)),)), False)
        self.for_both(1, ("tie", 1, (("tie", 2, (("clash", -2, -1),)),)), False)

    def test_other_words(self):
        for word in ("", "Tie", "ties", "ti", "tie ", " tie", "TIE", "clash", "t", "cross", "pile", None, 0, True,
                     ("tie",), ["tie"], ["t", "i", "e"], ("t", "i", "e")):
            self.for_both(0, (word, 0, ()), False)
            self.for_both(1, (word, 0, (("tie", 1, (("clash", 0, 1),)),)), False)
        for word in ("", "Clash", "clashes", "clas", "clash ", "CLASH", "tie", "c", "cross", None, 0, True, ("clash",)):
            self.for_both(1, ("tie", 0, (("tie", 1, ((word, 0, 1),)),)), False)

    def test_lengths(self):
        for thing in ((), ("tie",), ("tie", 0), ("tie", 0, (), ()), ("tie", 0, 0, ()), ("tie", (), ()), (0, ()),
                      ("tie", 0, (), None), ((), 0, "tie"), ("tie", (), 0)):
            self.for_both(0, thing, False)
        for clash in ((), ("clash",), ("clash", 0), ("clash", 1), ("clash", (0, 1)), ("clash", 0, 1, 2),
                      ("clash", 0, 1, 1), ("clash", 0, 1, ()), (0, 1), (0, 1, "clash"), (0, "clash", 1)):
            self.for_both(1, ("tie", 0, (("tie", 1, (clash,)),)), False)

    def test_lists_and_texts(self):
        for thing in (["tie", 0, ()], ("tie", 0, []), ("tie", 0, ""), ("tie", [0], ()), ("tie", "0", ()),
                      ("tie", (0,), ()), ("tie", 0, None), ("tie", 0, 0), ("tie", None, ()), "tie", "tie0", "t0("):
            self.for_both(0, thing, False)
        clash = ("clash", 0, 1)
        for thing in (
            ["tie", 0, (("tie", 1, (clash,)),)], ("tie", 0, [("tie", 1, (clash,))]),
            ("tie", 0, (["tie", 1, (clash,)],)),
            ("tie", 0, (("tie", 1, [clash]),)), ("tie", 0, (("tie", 1, (list(clash),)),)), ("tie", 0, "x"),
            ("tie", 0, (("tie", 1, clash),)), ("tie", 0, ("tie", 1, (clash,))), ("tie", 0, (("tie", 1, "x"),)),
            ("tie", 0, (("tie", 1, ("clash",)),)), ("tie", 0, {0: ("tie", 1, (clash,))}),
            ("tie", 0, (("tie", 1, (("clash", "0", "1"),)),)), ("tie", 0, (("tie", 1, (("clash", [0], [1]),)),)),
        ):
            self.for_both(1, thing, False)

    def test_other_things(self):
        for thing in PLAIN_THINGS + deep_things():
            for many in (0, 1, 2, 3):
                self.for_both(many, thing, False)
                self.for_both(many, ("tie", 0, thing), many == 0 and type(thing) is tuple and thing == ())
                self.for_both(many, ("tie", 0, (thing,)), False)
                self.for_both(many, ("tie", 0, (("tie", 1, (thing, thing)),)), False)
                self.for_both(many, ("clash", thing, thing), False)
                self.for_both(many, (thing, 0, ()), False)
            self.for_both(0, ("tie", thing, ()), type(thing) is int and thing in (0, 1, 2))
            self.for_both(1, ("tie", 0, (("tie", 1, (("clash", 0, thing),)),)), type(thing) is int and thing == 1)
            self.for_both(1, ("tie", 0, (("tie", 1, (("clash", thing, 1),)),)), type(thing) is int and thing == 0)

    # Deep things that look like papers all the way down.
    def test_things_thirty_deep(self):
        for many in (0, 1, 2):
            for tie in (0, 1, True, None):
                thing = ("clash", 0, 1)
                for _ in range(20):
                    thing = ("tie", tie, (thing,))
                self.for_both(many, thing, False)
        rising = ("clash", 0, 1)
        for tie in reversed(range(3, 23)):
            rising = ("tie", tie, (rising,))
        self.for_both(1, rising, False)
        self.told((8, full(8)[1]), tuple(range(8)), "pile", 1, rising, False)

    # Read to its end such a thing would take ages; its first leaf shows already that it is no paper.
    def test_wide_things(self):
        web = (6, full(6)[1][:12])
        thing = ("clash", 0, 1)
        for tie in reversed(range(12)):
            thing = ("tie", tie, (thing,) * (tie + 1))
        self.told(web, SIX, "pile", 12, thing, False)
        self.told(web, SIX, "queue", 12, thing, False)

    def test_webs_without_ties(self):
        for kind in KINDS:
            for many in range(3):
                for thing in PLAIN_THINGS + [("tie", 0, ()), ("clash", 0, 1), ONE_FIRST, AGAINST_TWO]:
                    self.told((3, ()), (0, 1, 2), kind, many, thing, False)

    def test_all_papers_of_small_webs(self):
        for web, row, kind in (
            (CROSSING, SIX, "pile"), (NESTED, SIX, "queue"), (COUPLE, SIX, "pile"),
            (NESTED, (0, 1, 4, 5, 2, 3), "pile"),
        ):
            for many in range(4):
                papers = list(all_papers(web, row, kind, many, {}))
                self.assertEqual(papers != [], many < pages_needed(web, row, kind))
                for thing in papers:
                    self.told(web, row, kind, many, thing, True)
                    for other in range(5):
                        self.read_plainly(web, row, kind, other, thing)

    # Other papers than the told one: the ties in any order, clashes shown at once or behind all ties.
    def test_ties_in_any_order(self):
        for web, row, kind, many in ((RING, FIVE, "pile", 2), (full(4), (0, 1, 2, 3), "queue", 1)):
            for order in itertools.permutations(range(len(web[1]))):
                for waits in (False, True):
                    thing = paper_in_order(web, row, kind, many, order, waits, {})
                    self.told(web, row, kind, many, thing, True)
                    self.told(web, row, kind, many - 1, thing, False)
                    self.told(web, row, kind, many + 1, thing, False)

    # Told papers with any one part changed in any of some ways are read as the plain reading reads them.
    def test_changed_papers(self):
        asked = [(CROSSING, SIX, "pile", 2), (NESTED, SIX, "queue", 2), (COUPLE, SIX, "pile", 1),
                 (RING, FIVE, "pile", 2), (full(5), FIVE, "pile", 2), (full(5), FIVE, "queue", 1),
                 (full(6), SIX, "queue", 2)]
        for web, row, kind, many in asked:
            paper = paper_against(web, row, kind, many)
            verdicts = []
            for thing in changed_somewhere(paper):
                self.read_plainly(web, row, kind, many, thing)
                verdicts.append(is_paper(web, row, kind, many, thing))
            self.assertIn(False, verdicts)

    def test_webs_beyond_the_bounds(self):
        for web in webs_beyond():
            row = tuple(range(web[0]))
            for kind in KINDS:
                for many in range(pages_needed(web, row, kind)):
                    paper = paper_against(web, row, kind, many)
                    self.told(web, row, kind, many, paper, True)
                    self.told(web, row, kind, many + 1, paper, False)
                    self.told(web, row, kind, many, list(paper), False)

    def test_what_is_handed_in_stays(self):
        things = deep_things() + [["tie", 0, [["clash", 0, 1]]], ("tie", 0, [("tie", 1, [("clash", 1, 0)])])]
        before = copy.deepcopy(things)
        for thing in things:
            for kind in KINDS:
                for many in range(3):
                    self.told(CROSSING, SIX, kind, many, thing, False)
                    self.told(CROSSING, SIX, kind, many, ("tie", 0, (thing,)), False)
        self.assertEqual(things, before)


if __name__ == "__main__":
    unittest.main()
