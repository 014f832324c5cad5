"""Webs written as texts: [1.2]."""

import itertools
import unittest

from pageties.writing import written


class Writings(unittest.TestCase):
    def test_the_documents_example(self):
        self.assertEqual(written((3, ((0, 1), (0, 2)))), "3 : 0-1 0-2")

    def test_one_tie(self):
        self.assertEqual(written((2, ((0, 1),))), "2 : 0-1")

    def test_webs_without_ties(self):
        for many in range(1, 7):
            self.assertEqual(written((many, ())), str(many) + " :")

    def test_twelve_ties(self):
        pairs = tuple(itertools.combinations(range(6), 2))
        self.assertEqual(
            written((6, pairs[:12])),
            "6 : 0-1 0-2 0-3 0-4 0-5 1-2 1-3 1-4 1-5 2-3 2-4 2-5",
        )
        self.assertEqual(
            written((6, pairs[3:])),
            "6 : 0-4 0-5 1-2 1-3 1-4 1-5 2-3 2-4 2-5 3-4 3-5 4-5",
        )

    def test_unlike_webs_have_unlike_texts(self):
        texts = {}
        for many in range(1, 5):
            pairs = tuple(itertools.combinations(range(many), 2))
            for count in range(len(pairs) + 1):
                for ties in itertools.combinations(pairs, count):
                    texts[written((many, ties))] = (many, ties)
        self.assertEqual(len(texts), 1 + 2 + 8 + 64)
        for text, (many, ties) in texts.items():
            words = [str(many), ":"] + [str(one) + "-" + str(other) for one, other in ties]
            self.assertEqual(text.split(" "), words)

    def test_the_same_is_told_again(self):
        web = (4, ((0, 2), (1, 3)))
        self.assertEqual(written(web), "4 : 0-2 1-3")
        self.assertEqual(written(web), "4 : 0-2 1-3")
        self.assertEqual(web, (4, ((0, 2), (1, 3))))


if __name__ == "__main__":
    unittest.main()
