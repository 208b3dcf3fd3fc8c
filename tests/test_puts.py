"""Putting terms in the places of tasks, and turning them the other way about."""

import unittest
from itertools import product

from behindbeside import puts
from behindbeside.errors import BadTerm, TaskError, TooGreat
from behindbeside.orders import Order
from behindbeside.puts import put, turned
from behindbeside.terms import is_term, normal, order_of
from tests.plainly import all_terms, is_normal, pairs_of_term
from tests.samples import Draw, drawn_term, drawn_terms, great_terms
from tests.test_terms import no_terms
from tests.values import LONG, nested, other_kinds


def size(term):
    return 1 if isinstance(term, int) else sum(size(part) for part in term[1:])


def pairs_put(term, terms):
    """Return the pairs of the order that comes of putting terms in the places of tasks, told plainly."""
    starts = [sum(size(item) for item in terms[:k]) for k in range(len(terms))]
    found = [(starts[k] + a, starts[k] + b) for k, item in enumerate(terms) for a, b in pairs_of_term(size(item), item)]
    for k, other in pairs_of_term(size(term), term):
        found += [(starts[k] + a, starts[other] + b) for a in range(size(terms[k])) for b in range(size(terms[other]))]
    return tuple(sorted(found))


class PutTests(unittest.TestCase):
    def same(self, found, many, pairs):
        """See that a term is the normal one of an order: there is one for each."""
        self.assertIs(is_term(found), True)
        self.assertTrue(is_normal(found))
        self.assertEqual(pairs_of_term(many, found), tuple(pairs))
        self.assertEqual(order_of(found).pairs, tuple(pairs))

    def refused(self, function, arguments, value):
        with self.subTest(function.__name__, value=repr(value)[:60]):
            with self.assertRaises(BadTerm) as caught:
                function(*arguments)
            self.assertIs(caught.exception.value, value)


class Interface(unittest.TestCase):
    def test_names_stand_in_their_file(self):
        for function in (put, turned):
            self.assertEqual(function.__module__, "behindbeside.puts")
            self.assertIs(getattr(puts, function.__name__), function)

    def test_by_name_and_in_another_order(self):
        term, terms, made = ("behind", 1, 0), (0, ("beside", 0, 1)), ("behind", ("beside", 1, 2), 0)
        self.assertEqual(put(term=term, terms=terms), made)
        self.assertEqual(put(terms=terms, term=term), made)
        self.assertEqual(put(term, terms=terms), made)
        self.assertEqual(turned(term=term), ("behind", 0, 1))


class Put(PutTests):
    """Points [0], [11] and [23]: put."""

    def check(self, term, terms):
        found = put(term, terms)
        self.same(found, sum(size(item) for item in terms), pairs_put(term, terms))
        self.assertEqual(put(term, terms), found)

    def test_all_small_terms(self):
        items = [0, ("behind", 0, 1), ("behind", 1, 0), ("beside", 1, 0)]
        for many in range(1, 4):
            for term in all_terms(many):
                for terms in product(items, repeat=many):
                    self.check(term, terms)

    def test_terms_that_are_not_normal(self):
        for term in all_terms(3)[::2]:
            for item in all_terms(3):
                self.check(term, (0, item, 0))
                self.check(term, (item, ("beside", 1, 0), ("behind", ("behind", 2, 0), 1)))

    def test_one_task_alone(self):
        self.assertEqual(put(0, (0,)), 0)
        for term in all_terms(3) + great_terms() + drawn_terms(3, 7, 5):
            self.assertEqual(put(0, (term,)), normal(term))
            self.assertEqual(put(term, (0,) * size(term)), normal(term))

    def test_twelve_tasks_together(self):
        draw = Draw(61)
        for many in range(1, 13):
            for _ in range(8):
                term = drawn_term(draw, range(many))
                sizes = [1] * many
                for _ in range(12 - many):
                    sizes[draw.below(many)] += 1
                self.check(term, tuple(drawn_term(draw, range(size)) for size in sizes))
        row = ("behind", *range(12))
        self.assertEqual(put(("behind", 0, 1), (("behind", *range(6)), ("behind", *range(6)))), row)
        self.assertEqual(put(row, (0,) * 12), row)

    def test_fewer_tasks(self):
        draw = Draw(62)
        for many in range(1, 6):
            for _ in range(10):
                term = drawn_term(draw, range(many))
                self.check(term, tuple(drawn_term(draw, range(1 + draw.below(2))) for _ in range(many)))

    def test_the_tasks_keep_their_numbers_as_the_terms_stand_in_the_tuple(self):
        both = ("beside", 0, 1)
        self.assertEqual(put(("behind", 1, 0), (both, 0)), ("behind", 2, ("beside", 0, 1)))
        self.assertEqual(put(("behind", 1, 0), (0, both)), ("behind", ("beside", 1, 2), 0))
        self.assertEqual(put(("behind", 2, 0, 1), (both, 0, ("behind", 1, 0))), ("behind", 4, 3, ("beside", 0, 1), 2))
        self.assertEqual(put(("beside", 1, 0), (("behind", 1, 0), ("behind", 0, 1))),
                         ("beside", ("behind", 1, 0), ("behind", 2, 3)))
        self.assertEqual(put(("behind", 0, 1), (("behind", 0, 1), ("behind", 1, 0))), ("behind", 0, 1, 3, 2))

    def test_the_arguments_are_not_changed(self):
        terms = [0, 0]
        self.refused(put, (("behind", 0, 1), terms), terms)
        self.assertEqual(terms, [0, 0])


class PutRefused(PutTests):
    """BadTerm(term), BadTerm(terms), BadTerm(item), TooGreat(12), in this order."""

    def too_great(self, term, terms):
        with self.assertRaises(TooGreat) as caught:
            put(term, terms)
        self.assertEqual(caught.exception.most, 12)

    def test_any_value_that_is_no_term(self):
        for value in no_terms():
            for terms in ((0,), (0, 0), (), None, [0], (None,), (("behind", *range(12)), 0)):
                self.refused(put, (value, terms), value)

    def test_any_value_that_is_no_tuple_of_so_many_items(self):
        for term in (0, ("behind", 0, 1), ("beside", 2, ("behind", 1, 0)), ("beside", *range(12))):
            many = size(term)
            wrong = [(0,) * k for k in range(14) if k != many] + [(None,) * k for k in range(14) if k != many]
            wrong += [[0] * many, [0] * (many + 1), [], {0: 0}, {k: 0 for k in range(many)}, {0}, range(many),
                      "0" * many, bytes(many), 0, 1, many, -1, LONG, iter((0,) * many), Order(many, []), [None] * many,
                      nested(50, lambda x: [x], 0), nested(50, lambda x: (*[0] * many, x), 0)]
            for terms in wrong + other_kinds():
                self.refused(put, (term, terms), terms)

    def test_the_first_item_that_is_no_term(self):
        for item in no_terms():
            self.refused(put, (0, (item,)), item)
            for terms in ((item, 0, 0), (0, item, 0), (0, 0, item), (0, item, None), (item, item, 0),
                          (("beside", *range(12)), ("behind", 1, 0), item)):
                self.refused(put, (("behind", 0, ("beside", 2, 1)), terms), item)

    def test_more_than_twelve_tasks_together(self):
        both = ("behind", 0, 1)
        self.too_great(both, (("behind", *range(12)), 0))
        self.too_great(both, (0, ("behind", *range(12))))
        self.too_great(both, (("behind", *range(12)), ("beside", *range(12))))
        self.too_great(("beside", *range(12)), (0,) * 11 + (both,))
        self.too_great(("beside", *range(12)), (both,) * 12)
        self.too_great(("beside", *range(12)), (("beside", *range(12)),) * 12)
        self.too_great(("beside", *range(7)), (both,) * 6 + (0,))
        self.assertEqual(size(put(("beside", *range(6)), (both,) * 6)), 12)
        self.assertEqual(size(put(("beside", *range(7)), (both,) * 5 + (0,) * 2)), 12)

    def test_several_at_once(self):
        great, both = ("behind", *range(12)), ("behind", 0, 1)
        wrong, item = ("behind", 0, 2), ("beside", 1, 2)
        terms = (great, great, item)
        self.refused(put, (wrong, terms), wrong)
        self.refused(put, (both, terms), terms)
        self.refused(put, (both, (great, item)), item)
        self.refused(put, (both, (item, great)), item)
        self.too_great(both, (great, great))

    def test_it_is_a_task_error(self):
        self.assertRaises(TaskError, put, 0, ())
        self.assertRaises(TaskError, turned, 1)


class Turned(PutTests):
    """Points [0] and [11]: turned."""

    def check(self, term):
        many = size(term)
        found = turned(term)
        self.same(found, many, sorted((b, a) for a, b in pairs_of_term(many, term)))
        self.assertEqual(turned(found), normal(term))
        self.assertEqual(turned(term), found)

    def test_all_terms_of_up_to_four_tasks(self):
        for many in range(1, 5):
            for term in all_terms(many):
                self.check(term)

    def test_great_terms(self):
        for term in great_terms():
            self.check(term)
        for many in range(5, 13):
            for term in drawn_terms(80 + many, many, 10):
                self.check(term)

    def test_written_out(self):
        self.assertEqual(turned(0), 0)
        self.assertEqual(turned(("behind", 0, 1)), ("behind", 1, 0))
        self.assertEqual(turned(("beside", 1, 0)), ("beside", 0, 1))
        self.assertEqual(turned(("behind", ("beside", 0, 1), 2, ("beside", 4, ("behind", 3, 5)))),
                         ("behind", ("beside", ("behind", 5, 3), 4), 2, ("beside", 0, 1)))

    def test_any_value_that_is_no_term(self):
        for value in no_terms():
            self.refused(turned, (value,), value)


if __name__ == "__main__":
    unittest.main()
