"""Terms as texts, and back."""

import unittest
from itertools import product

from behindbeside import texts
from behindbeside.errors import BadTerm, BadText, TaskError
from behindbeside.terms import is_term
from behindbeside.texts import read_term, term_text
from tests.plainly import all_terms
from tests.samples import Draw, drawn_terms, great_terms
from tests.test_terms import no_terms
from tests.values import LONG, nested, other_kinds

SIGNS = {"behind": ">", "beside": "|"}


def written(value):
    """Return the text of tasks and words put together, a term or not."""
    if isinstance(value, int):
        return str(value)
    text = "(" + written(value[1])
    for part in value[2:]:
        text += " " + SIGNS[value[0]] + " " + written(part)
    return text + ")"


class Reader:
    """What may stand next in a text, character by character.

    Of each open bracket, its sign (None before the first one) and the number of its parts are kept.
    """

    def __init__(self):
        self.open = []
        self.state = "part"

    def takes(self, sign):
        """Take a character, and tell whether it may stand here."""
        if self.state in ("one figure", "figures") and sign in list("0123456789"):
            taken = self.state == "one figure"
            self.state = "figures"
            return taken
        if self.state in ("one figure", "figures"):
            self.state = "behind a part"
        if self.state == "part":
            return self.takes_part(sign)
        if self.state == "sign":
            wanted = [self.open[-1][0]] if self.open[-1][0] else [">", "|"]
            self.open[-1][0] = sign
            self.state = "blank"
            return sign in wanted
        if self.state == "blank":
            self.state = "part"
            return sign == " "
        return self.takes_behind_a_part(sign)

    def takes_part(self, sign):
        if sign == "(":
            self.open.append([None, 0])
            return len(self.open) <= 20
        if self.open:
            self.open[-1][1] += 1
        self.state = "figures" if sign == "0" else "one figure"
        return sign in list("0123456789")

    def takes_behind_a_part(self, sign):
        if self.open and sign == " ":
            self.state = "sign"
            return True
        if self.open and sign == ")" and self.open[-1][1] >= 2:
            self.open.pop()
            if self.open:
                self.open[-1][1] += 1
            return True
        return False

    def may_end(self):
        return not self.open and self.state != "part"


def first_wrong(text):
    """Return the number of the first character at which no text of a term goes on, its length if it ends too early,
    or None."""
    reader = Reader()
    for place, sign in enumerate(text):
        if not reader.takes(sign):
            return place
    return None if reader.may_end() else len(text)


def told(text):
    """Return what a text tells, cut at the signs that stand in its outermost bracket alone."""
    if not text.startswith("("):
        return int(text)
    parts, depth, word = [""], 0, None
    for sign in text[1:-1]:
        depth += {"(": 1, ")": -1}.get(sign, 0)
        if depth == 0 and sign in ">|":
            word = {">": "behind", "|": "beside"}[sign]
            parts.append("")
        else:
            parts[-1] += sign
    return (word, *[told(part.strip()) for part in parts])


class TextTests(unittest.TestCase):
    def refused(self, text, place):
        with self.assertRaises(BadText, msg=repr(text)[:80]) as caught:
            read_term(text)
        if place is None:
            self.assertIsNone(caught.exception.place)
        else:
            self.assertEqual(caught.exception.place, place, repr(text)[:80])
            self.assertIs(type(caught.exception.place), int)

    def no_term(self, text, value):
        with self.assertRaises(BadTerm, msg=repr(text)[:80]) as caught:
            read_term(text)
        self.same(caught.exception.value, value)

    def same(self, found, expected):
        self.assertEqual(found, expected)
        self.assertEqual(repr(found), repr(expected))

    def check(self, text):
        """Compare with the text read character by character, and return what came of it."""
        place = first_wrong(text)
        if place is not None:
            self.refused(text, place)
            return "text"
        value = told(text)
        if not is_term(value):
            self.no_term(text, value)
            return "term"
        self.same(read_term(text), value)
        self.same(read_term(text), value)
        return "read"


class Interface(unittest.TestCase):
    def test_names_stand_in_their_file(self):
        for function in (term_text, read_term):
            self.assertEqual(function.__module__, "behindbeside.texts")
            self.assertIs(getattr(texts, function.__name__), function)

    def test_by_name(self):
        self.assertEqual(term_text(term=("behind", 0, 1)), "(0 > 1)")
        self.assertEqual(read_term(text="(0 > 1)"), ("behind", 0, 1))


class TermText(TextTests):
    """term_text."""

    def test_written_out(self):
        for term, text in (
            (0, "0"), (("behind", 0, 1), "(0 > 1)"), (("beside", 0, 1), "(0 | 1)"), (("behind", 1, 0), "(1 > 0)"),
            (("behind", 0, ("beside", 1, 2)), "(0 > (1 | 2))"), (("beside", ("behind", 2, 0), 1), "((2 > 0) | 1)"),
            (("behind", 0, ("behind", 1, 2)), "(0 > (1 > 2))"), (("beside", 2, 1, 0), "(2 | 1 | 0)"),
            (("behind", *range(12)), "(0 > 1 > 2 > 3 > 4 > 5 > 6 > 7 > 8 > 9 > 10 > 11)"),
        ):
            self.same(term_text(term), text)
            self.same(read_term(text), term)

    def test_all_terms_of_up_to_four_tasks(self):
        for many in range(1, 5):
            for term in all_terms(many):
                self.same(term_text(term), written(term))
                self.same(read_term(term_text(term)), term)

    def test_great_and_deep_terms(self):
        for term in great_terms() + [term for many in range(5, 13) for term in drawn_terms(90 + many, many, 12)]:
            self.same(term_text(term), written(term))
            self.same(read_term(term_text(term)), term)
            self.same(term_text(term), term_text(term))

    def test_any_value_that_is_no_term(self):
        for value in no_terms():
            with self.subTest(repr(value)[:60]):
                with self.assertRaises(BadTerm) as caught:
                    term_text(value)
                self.assertIs(caught.exception.value, value)


class ReadTerm(TextTests):
    """read_term."""

    def test_all_short_texts(self):
        kinds = []
        for length in range(6):
            for signs in product("(012 >|)", repeat=length):
                kinds.append(self.check("".join(signs)))
        self.assertEqual({kind: kinds.count(kind) for kind in ("read", "term")}, {"read": 1, "term": 8})

    def test_all_texts_beside_short_ones(self):
        found = []
        for text in ("(0 > 1)", "(1 | 0)", "10", "(0 > 12)", "(0 | 1 | 2)", "((0 > 1) | 2)"):
            for place in range(len(text) + 1):
                for sign in "(01 >|)2x":
                    found.append(self.check(text[:place] + sign + text[place:]))
                    found.append(self.check(text[:place] + sign + text[place + 1:]))
                found.append(self.check(text[:place] + text[place + 1:]))
                found.append(self.check(text[:place]))
        self.assertGreater(found.count("text"), 500)
        self.assertGreater(found.count("term"), 20)
        self.assertGreater(found.count("read"), 10)

    def test_great_texts_with_characters_changed(self):
        draw = Draw(71)
        for term in great_terms() + drawn_terms(72, 12, 20):
            text = written(term)
            self.assertEqual(self.check(text), "read")
            for _ in range(25):
                place, end = draw.below(len(text) + 1), draw.below(3)
                signs = "".join("(0123456789 >|)"[draw.below(15)] for _ in range(draw.below(3)))
                self.check(text[:place] + signs + text[place + end:])

    def test_every_beginning(self):
        for term in great_terms()[::3]:
            text = written(term)
            for length in range(len(text)):
                self.refused(text[:length], length)

    def test_any_value_that_is_no_string(self):
        for value in other_kinds() + [0, 1, LONG, [], ["(0 > 1)"], ("(0 > 1)",), (), ("behind", 0, 1), ["0"],
                                      nested(50, lambda x: [x], "0"), nested(50, lambda x: (x,), "0"), b"(0 > 1)"]:
            if not isinstance(value, str):
                self.refused(value, None)

    def test_texts_that_end_too_early(self):
        for text in ("", "(", "(0", "(0 ", "(0 >", "(0 > ", "(0 > 1", "((", "((0 > 1)", "((0 > 1) ", "(0 > (1 | 2)",
                     "(11", "(0 > 1 ", "(0 > 1 >", "(0 > 1 > "):
            self.refused(text, len(text))

    def test_needless_zeros_and_three_figures(self):
        for text, place in (("00", 1), ("01", 1), ("000", 1), ("(00 > 1)", 2), ("(0 > 01)", 6), ("(01 > 0)", 2),
                            ("(0 | 00)", 6), ("100", 2), ("(0 > 100)", 7), ("(123 > 0)", 3), ("999", 2), ("1000", 2)):
            self.refused(text, place)

    def test_brackets_of_one_part(self):
        for text, place in (("(0)", 2), ("((0 > 1))", 8), ("()", 1), ("(())", 2), ("(0 > (1))", 7), ("(10)", 3),
                            ("((0))", 3), ("(0 > ())", 6)):
            self.refused(text, place)

    def test_other_signs(self):
        for text, place in (("(0 > 1 | 2)", 7), ("(0 | 1 > 2)", 7), ("(0 < 1)", 3), ("(0 - 1)", 3), ("(0, 1)", 2),
                            ("(0 > 1, 2)", 6), ("[0 > 1]", 0), ("(0 > 1]", 6), ("(0 > 1 > 2 | 3)", 11), ("(0 >> 1)", 4),
                            ("(0 || 1)", 4), ("(0 > > 1)", 5), ("(0 >| 1)", 4), ("(0 = 1)", 3), ("{0 > 1}", 0),
                            ("(0 > 1 < 2)", 7), ("(0 > (1 | 2 > 3))", 12), ("(0 > (1 | 2) | 3)", 13), ("(> 0 1)", 1),
                            ("(0 1)", 3), ("(0 > 1 2)", 7), ("(-1 > 0)", 1), ("-1", 0), ("+1", 0), ("(0 > -1)", 5),
                            ("(a > b)", 1), ("(0 > x)", 5), ("0x1", 1), ("1_0", 1), ("x", 0), ("behind", 0), (")", 0),
                            ("|", 0), (">", 0)):
            self.refused(text, place)

    def test_too_many_or_too_few_blanks(self):
        for text, place in ((" 0", 0), ("0 ", 1), ("( 0 > 1)", 1), ("(0  > 1)", 3), ("(0 >  1)", 5), ("(0 > 1 )", 7),
                            ("(0> 1)", 2), ("(0 >1)", 4), ("(0>1)", 2), (" ", 0), ("(0 > 1) ", 7), (" (0 > 1)", 0),
                            ("(0 > 1  > 2)", 7), ("(0 > 1> 2)", 6), ("(1 0)", 3), ("(0 > 1 1)", 7), ("(1 1 > 0)", 3),
                            ("\n0", 0), ("0\n", 1), ("(0\n> 1)", 2), ("(0 >\n1)", 4), ("\t", 0), ("(0 > 1)\n", 7)):
            self.refused(text, place)

    def test_anything_behind_the_end(self):
        for text, place in (("0)", 1), ("0 > 1", 1), ("(0 > 1))", 7), ("(0 > 1)0", 7), ("(0 > 1)(", 7), ("0(", 1),
                            ("(0 > 1) > 2", 7), ("12 ", 2), ("(0 > 1)\n", 7), ("0x", 1), ("(0 > 1) (0 > 1)", 7)):
            self.refused(text, place)

    def test_other_figures(self):
        for text, place in (("\u0661", 0), ("1\u0661", 1), ("(0 > \u0661)", 5), ("\u00b2", 0), ("1\u00b2", 1),
                            ("\uff10", 0), ("(0 \uff5c 1)", 3)):
            self.refused(text, place)

    def test_brackets_within_one_another(self):
        for word, sign in SIGNS.items():
            for depth in (1, 11, 12, 19, 20):
                left = "(" * depth + "0" + f" {sign} 1)" * depth
                right = f"(0 {sign} " * depth + "1" + ")" * depth
                if depth == 1:
                    self.assertEqual(read_term(left), (word, 0, 1))
                    self.assertEqual(read_term(right), (word, 0, 1))
                else:
                    self.no_term(left, nested(depth, lambda x: (word, x, 1), 0))
                    self.no_term(right, nested(depth, lambda x: (word, 0, x), 1))
            for depth in (21, 22, 30, 200):
                self.refused("(" * depth + "0" + f" {sign} 1)" * depth, 20)
                self.refused(f"(0 {sign} " * depth + "1" + ")" * depth, 100)
        self.refused("(" * 20, 20)
        self.refused("(" * 21, 20)
        self.refused("(" * 1000, 20)
        # Brackets that are closed again count no more.
        row = "(0 | 1)"
        self.assertEqual(self.check("(" + " > ".join([row] * 30) + ")"), "term")
        deep = "(0 > " * 19 + row + " > " + row + ")" * 19
        self.assertEqual(self.check(deep), "term")
        self.refused(deep.replace(row + ")", "(0 | " + row + "))"), len("(0 > " * 19 + row + " > (0 | "))

    def test_what_the_text_tells_is_no_term(self):
        for text, value in (
            ("1", 1), ("12", 12), ("99", 99), ("(0 > 0)", ("behind", 0, 0)), ("(0 | 2)", ("beside", 0, 2)),
            ("(1 > 2)", ("behind", 1, 2)), ("(0 > 1 > 1)", ("behind", 0, 1, 1)), ("(0 > 12)", ("behind", 0, 12)),
            ("(0 > (1 | 1))", ("behind", 0, ("beside", 1, 1))), ("(99 | 98)", ("beside", 99, 98)),
            ("(0 > (1 | 3))", ("behind", 0, ("beside", 1, 3))), ("(10 | 0)", ("beside", 10, 0)),
            (written(("beside", *range(13))), ("beside", *range(13))),
            ("(" + " > ".join(["0"] * 2000) + ")", ("behind", *[0] * 2000)),
        ):
            self.no_term(text, value)

    def test_the_text_is_looked_at_first(self):
        for text, place in (("(0 > 0", 6), ("(99 > 99) ", 9), ("99)", 2), ("(1 > 2 | 3)", 7)):
            self.refused(text, place)

    def test_they_are_task_errors(self):
        self.assertRaises(TaskError, read_term, "")
        self.assertRaises(TaskError, read_term, "1")
        self.assertRaises(TaskError, term_text, 1)


if __name__ == "__main__":
    unittest.main()
