"""The refusals, as the interface names them."""

import unittest

from pageties.errors import NoRun, NoText, PageError


class Refusals(unittest.TestCase):
    def test_any_refusal_is_a_page_error_and_a_value_error(self):
        for refusal in (PageError, NoText, NoRun):
            for above in (PageError, ValueError):
                with self.subTest(refusal=refusal, above=above):
                    with self.assertRaises(above):
                        raise refusal("some words")

    def test_page_error_stands_right_under_value_error(self):
        self.assertEqual(PageError.__bases__, (ValueError,))

    def test_neither_is_below_the_other(self):
        self.assertFalse(issubclass(NoText, NoRun))
        self.assertFalse(issubclass(NoRun, NoText))

    def test_the_one_is_not_taken_as_the_other(self):
        for raised, other in ((NoText, NoRun), (NoRun, NoText)):
            with self.subTest(raised=raised):
                with self.assertRaises(raised):
                    try:
                        raise raised("some words")
                    except other:
                        self.fail("taken as the other refusal")

    def test_a_page_error_is_neither(self):
        self.assertFalse(issubclass(PageError, NoText))
        self.assertFalse(issubclass(PageError, NoRun))

    def test_words_are_kept(self):
        self.assertEqual(str(NoText("no web's writing")), "no web's writing")


if __name__ == "__main__":
    unittest.main()
