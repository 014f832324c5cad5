"""Webs read from their texts: [0.2] (a), [1.2]."""

import itertools
import re
import unittest

from pageties.errors import NoRun, NoText, PageError
from pageties.reading import read
from pageties.writing import written
from tests.things import full, twelve_tie_webs, webs_of

SIGNS = [chr(code) for code in range(ord(" "), ord("~") + 1)]

TEXTS = [
    "1 :",
    "6 :",
    "2 : 0-1",
    "3 : 0-1 0-2",
    "4 : 0-2 1-3",
    "6 : 0-1 0-2 0-3 0-4 0-5 1-2 1-3 1-4 1-5 2-3 2-4 2-5",
]


# Asked by a pattern and by going through the pairs, so that it shares nothing with the program.
def is_writing(text):
    if not re.fullmatch(r"[1-6] :( [0-5]-[0-5])*", text):
        return False
    pairs = [(int(word[0]), int(word[2])) for word in text.split()[2:]]
    if any(not one < other < int(text[0]) for one, other in pairs):
        return False
    return pairs == sorted(set(pairs)) and len(pairs) <= 12


class Readings(unittest.TestCase):
    def refused(self, text):
        for above in (NoText, PageError, ValueError):
            with self.assertRaises(above, msg=repr(text)) as caught:
                read(text)
            self.assertIsInstance(caught.exception, NoText, repr(text))
            self.assertNotIsInstance(caught.exception, NoRun, repr(text))

    def told(self, text):
        if is_writing(text):
            self.assertEqual(written(read(text)), text)
        else:
            self.refused(text)


class WebsReadAgain(Readings):
    def test_the_documents_example(self):
        self.assertEqual(read("3 : 0-1 0-2"), (3, ((0, 1), (0, 2))))

    def test_no_tie(self):
        for many in range(1, 7):
            self.assertEqual(read(written((many, ()))), (many, ()))
            self.assertEqual(read(str(many) + " :"), (many, ()))

    def test_one_tie(self):
        for many in range(2, 7):
            for tie in full(many)[1]:
                self.assertEqual(read(written((many, (tie,)))), (many, (tie,)))

    def test_twelve_ties(self):
        for web in twelve_tie_webs(1):
            self.assertEqual(read(written(web)), web)

    def test_all_webs_of_one_to_five_places(self):
        for many in range(1, 6):
            for web in webs_of(many):
                self.assertEqual(read(written(web)), web)

    def test_what_is_read_is_made_of_tuples_and_whole_numbers(self):
        web = read("4 : 0-2 1-3")
        self.assertIs(type(web), tuple)
        self.assertIs(type(web[1]), tuple)
        for tie in web[1]:
            self.assertIs(type(tie), tuple)
        for number in (web[0],) + web[1][0] + web[1][1]:
            self.assertIs(type(number), int)

    def test_the_same_is_told_again(self):
        for _ in range(3):
            self.assertEqual(read("4 : 0-2 1-3"), (4, ((0, 2), (1, 3))))
            self.refused("4 : 1-3 0-2")


class TextsThatAreNoWriting(Readings):
    def test_the_empty_text(self):
        self.refused("")

    def test_a_sign_left_out(self):
        for text in TEXTS:
            for k in range(len(text)):
                self.told(text[:k] + text[k + 1:])
        self.refused("3 : 0-10-2")
        self.refused("3 : 01 0-2")
        self.refused("3 0-1 0-2")
        self.refused(" : 0-1")
        self.refused(":")

    def test_a_sign_doubled(self):
        for text in TEXTS:
            for k in range(len(text)):
                self.told(text[:k] + text[k] + text[k:])
        self.refused("33 : 0-1")
        self.refused("3 :: 0-1")
        self.refused("3 : 0--1")
        self.refused("3 : 00-1")
        self.refused("3 : 0-11")

    def test_a_sign_put_in(self):
        for text in TEXTS:
            for k in range(len(text) + 1):
                for sign in SIGNS:
                    self.told(text[:k] + sign + text[k:])

    def test_another_sign(self):
        for text in TEXTS:
            for k in range(len(text)):
                for sign in SIGNS:
                    self.told(text[:k] + sign + text[k + 1:])

    def test_all_short_texts(self):
        for length in range(7):
            for signs in itertools.product(" :-0127", repeat=length):
                text = "".join(signs)
                try:
                    told = written(read(text))
                except NoText:
                    told = None
                self.assertEqual(told, text if is_writing(text) else None, repr(text))

    def test_blanks(self):
        for text in (
            " 3 : 0-1", "3 : 0-1 ", "3  : 0-1", "3 :  0-1", "3 : 0-1  0-2", "3: 0-1", "3 :0-1", "3:0-1",
            "3 : ", " 3 :", "3  :", "3:", "3 : 0 -1", "3 : 0- 1", "3 : 0 - 1", " ", "  ", "3 ", " :",
        ):
            self.refused(text)

    def test_numbers_written_otherwise(self):
        for text in (
            "+3 : 0-1", "-3 : 0-1", "3 : +0-1", "3 : 0-+1", "3 : -0-1", "3 : 0--1", "3 : -1-2",
            "03 : 0-1", "003 :", "3 : 00-1", "3 : 0-01", "3 : 01-2",
            "0_3 : 0-1", "_3 :", "3_ :", "3 : 0_0-1", "3 : 0-0_1", "3 : _0-1", "3 : 0-1_",
            "1 2 : 0-1", "3 : 0-1 2", "0x3 :", "3.0 :", "3e0 :", "three :",
        ):
            self.refused(text)

    def test_places_too_few_or_too_many(self):
        for many in ("0", "7", "8", "9", "10", "12", "66", "-1"):
            self.refused(many + " :")
            self.refused(many + " : 0-1")

    def test_a_place_not_less_than_many(self):
        for many in range(1, 7):
            self.refused(f"{many} : 0-{many}")
            self.refused(f"{many} : {many}-{many + 1}")
        self.refused("3 : 0-1 1-3")
        self.refused("6 : 0-10")
        self.refused("6 : 0-9")

    def test_a_place_tied_to_itself(self):
        for many in range(1, 7):
            for place in range(many):
                self.refused(f"{many} : {place}-{place}")

    def test_a_falling_tie(self):
        self.refused("2 : 1-0")
        self.refused("3 : 0-1 2-1")
        self.refused("6 : 5-0")

    def test_a_tie_twice(self):
        self.refused("2 : 0-1 0-1")
        self.refused("3 : 0-1 1-2 1-2")
        self.refused("3 : 0-1 1-2 0-1")

    def test_ties_that_do_not_rise(self):
        self.refused("3 : 0-2 0-1")
        self.refused("3 : 1-2 0-1")
        self.refused("4 : 0-1 2-3 1-2")

    def test_more_than_twelve_ties(self):
        for count in (13, 14, 15):
            for ties in itertools.combinations(full(6)[1], count):
                self.refused(written((6, ties)))

    def test_other_shapes(self):
        for text in (
            "3 : 0", "3 : -", "3 : 0-", "3 : -1", "3 : 0-1-2", "3 : 0-1,0-2", "3 : (0, 1)", "3 : :", ": 3",
            "3 ; 0-1", "3 : 0+1", "3 : 0~1", "0-1", "0-1 : 3", "3 0-1 :", "(3, ((0, 1),))", "pile", "~",
            "3 : 0-1\n", "3 :\t0-1", "3 :\n",
        ):
            self.refused(text)

    def test_long_texts(self):
        self.refused("1" * 10000 + " :")
        self.refused("6 : 0-" + "1" * 10000)
        self.refused("6 : 0-" + "0" * 10000 + "1")
        self.refused("6 :" + " 0-1" * 10000)
        self.refused(" " * 10000)


if __name__ == "__main__":
    unittest.main()
