"""Terms: what they are, their orders, and their normal terms."""

import unittest
from itertools import permutations

from behindbeside import terms
from behindbeside.errors import BadTerm, TaskError
from behindbeside.orders import Order
from behindbeside.terms import is_term, normal, order_of
from tests.plainly import all_terms, followed, is_normal, least, pairs_of_term
from tests.samples import great_terms, leaning
from tests.values import LONG, nested, other_kinds


def wrong_items():
    """Terms with one word or one task that cannot stand there."""
    words = ["Behind", "BEHIND", "behind ", " beside", "be", "", "b", "side", "ahead", "behindbeside", "behind\n",
             b"behind", b"beside", 0, 1, -1, True, False, None, ("behind",), ["behind"], ("beside", 0, 1), {}, object()]
    tasks = [2, 3, 12, -1, LONG, True, False, None, "1", b"1", "behind", "beside", [], [1], (), (1,), (0, 1), {}, {1},
             object(), ("behind",), ("behind", 1), ("beside", 1), ["behind", 1, 2], ["beside", 1], Order(2, [])]
    found = []
    for word in words:
        found += [(word, 0, 1), ("behind", (word, 0, 1), 2), ("beside", (word, 1, 2), 0)]
    for task in tasks:
        found += [("behind", 0, task), ("beside", task, 0), ("behind", ("beside", 0, 2), task)]
    return found


def wrong_tasks():
    """Tuples of words and integers that have not each task once."""
    return [
        ("behind", 0, 0), ("beside", 0, 0), ("behind", 0, 1, 0), ("behind", 0, 1, 1), ("behind", 1, 1),
        ("beside", 2, 1), ("behind", 0, 2), ("beside", 1, 2), ("behind", 1, 2, 3), ("behind", 0, 1, 3),
        ("beside", 0, 11), ("behind", ("beside", 0, 1), 1), ("behind", ("beside", 0, 1), ("beside", 0, 1)),
        ("beside", 0, ("behind", 1, 0)), ("behind", ("beside", 0, 1), ("beside", 1, 2)),
        ("behind", ("beside", 0, 1), ("beside", 3, 4)), ("behind", 0, True), ("behind", False, 1),
        ("beside", False, True), ("behind", ("beside", 0, True), 2), ("beside", *range(12), 0),
        ("beside", *range(1, 13)), ("behind", *range(11), 12),
        # Thirteen tasks and more.
        ("behind", *range(13)), ("beside", *range(13)), ("beside", *range(14)), ("behind", *range(40)),
        ("behind", ("beside", *range(6)), ("beside", *range(6, 13))),
        leaning(("behind", "beside"), 13, True), leaning(("behind", "beside"), 13, False),
    ]


def wrong_shapes():
    """Values that are not put together as terms are."""
    return [
        (), (0,), (0, 1), (0, 1, 2), ("behind",), ("beside",), ("behind", 0), ("beside", 0), ("behind", (0, 1)),
        ("behind", ("beside", 0, 1)), ("behind", ("beside", 0), 1), ("behind", 0, ("beside", 1)),
        ("behind", ("beside",), 0, 1), ("behind", (), 0, 1), ("behind", 0, 1, ()), ("behind", 0, 1, None),
        ("behind", 0, 1, "beside"), ("behind", "beside", 0, 1), ("behind", 0, "behind", 1), (0, "behind", 1),
        (0, 1, "behind"), ("behind", (0, 1), 2), [], [0], ["behind", 0, 1], ["beside", 0, 1],
        ["behind", ["beside", 0, 1], 2], ["behind", ("beside", 0, 1), 2], ("behind", ["beside", 0, 1], 2),
        ("behind", 0, ["beside", 1, 2]), ("behind", [0, 1]), "(0 > 1)", {"behind": (0, 1)}, Order(1, []),
        Order(2, [(0, 1)]), nested(50, lambda x: (x,), 0), nested(50, lambda x: ("behind", x), 0),
        nested(50, lambda x: ("beside", x, 0), 0), nested(49, lambda x: ("behind", 0, x), ("beside", 0, 1)),
        nested(50, lambda x: ["behind", x, 1], 0), nested(60, lambda x: ("behind", x, 1), 0),
    ]


def no_terms():
    """Values of many kinds that are no terms."""
    numbers = [1, 2, 11, 12, 13, -1, -12, LONG, -LONG, LONG - 1]
    return numbers + wrong_items() + wrong_tasks() + wrong_shapes() + other_kinds()


class Interface(unittest.TestCase):
    def test_names_stand_in_their_file(self):
        for function in (is_term, order_of, normal):
            self.assertEqual(function.__module__, "behindbeside.terms")
            self.assertIs(getattr(terms, function.__name__), function)


class IsTerm(unittest.TestCase):
    """Points [2] and [11]: is_term of any value."""

    def test_tasks(self):
        self.assertIs(is_term(0), True)
        for value in (1, 2, 11, 12, -1, LONG, -LONG, True, False):
            self.assertIs(is_term(value), False)

    def test_small_terms(self):
        for word in ("behind", "beside"):
            for value in ((word, 0, 1), (word, 1, 0), (word, 0, 1, 2), (word, 2, 0, 1), (word, (word, 2, 0), 1),
                          (word, 1, ("behind", 0, 2)), (word, ("beside", 1, 0), 2)):
                self.assertIs(is_term(value), True)

    def test_all_terms_of_up_to_four_tasks(self):
        for many in range(1, 5):
            for term in all_terms(many):
                self.assertIs(is_term(term), True)

    def test_great_and_deep_terms(self):
        for term in great_terms():
            self.assertIs(is_term(term), True)

    def test_what_is_no_term(self):
        for value in no_terms():
            with self.subTest(repr(value)[:60]):
                self.assertIs(is_term(value), False)

    def test_a_term_with_one_task_changed(self):
        term = ("behind", ("beside", 0, 1), ("beside", 2, ("behind", 3, 4)))
        self.assertIs(is_term(term), True)
        for wrong in (0, 1, 2, 4, 5, 6, 12, -1, -3, True, None, "3", (3,), [3], (), ("behind", 3), ("beside", 3, 3)):
            self.assertIs(is_term(("behind", ("beside", 0, 1), ("beside", 2, ("behind", wrong, 4)))), False)

    def test_by_name(self):
        self.assertIs(is_term(value=("behind", 0, 1)), True)
        self.assertIs(is_term(value=("behind", 0, 2)), False)


class Refused(unittest.TestCase):
    """Point [2]: BadTerm(term) with the very value."""

    def test_any_value(self):
        for value in no_terms():
            for function in (order_of, normal):
                with self.subTest(function.__name__, value=repr(value)[:60]):
                    with self.assertRaises(BadTerm) as caught:
                        function(value)
                    self.assertIs(caught.exception.value, value)

    def test_by_name(self):
        for function in (order_of, normal):
            with self.assertRaises(BadTerm) as caught:
                function(term=1)
            self.assertEqual(caught.exception.value, 1)

    def test_it_is_a_task_error(self):
        self.assertRaises(TaskError, order_of, None)
        self.assertRaises(TaskError, normal, None)

    def test_a_refused_list_is_not_changed(self):
        value = ["behind", ["beside", 0, 1], 2]
        for function in (is_term, order_of, normal):
            try:
                function(value)
            except BadTerm:
                pass
            self.assertEqual(value, ["behind", ["beside", 0, 1], 2])


class OrderOf(unittest.TestCase):
    """Points [11] and [23]: the order of a term."""

    def test_what_the_document_tells(self):
        self.assertEqual(order_of(("behind", 0, 1)), Order(2, [(0, 1)]))
        self.assertEqual(order_of(("behind", 1, 0)), Order(2, [(1, 0)]))
        self.assertEqual(order_of(("beside", 0, 1)), Order(2, []))
        self.assertEqual(order_of(0), Order(1, []))

    def test_written_out(self):
        rows = (
            (("behind", 0, 1, 2), ((0, 1), (0, 2), (1, 2))),
            (("behind", 2, 0, 1), ((0, 1), (2, 0), (2, 1))),
            (("behind", 2, ("behind", 0, 1)), ((0, 1), (2, 0), (2, 1))),
            (("behind", ("beside", 0, 2), 1), ((0, 1), (2, 1))),
            (("behind", 1, ("beside", 2, 0)), ((1, 0), (1, 2))),
            (("beside", ("behind", 2, 0), 1), ((2, 0),)),
            (("beside", 2, 1, 0), ()),
            (("behind", ("beside", 0, 1), ("beside", 2, 3)), ((0, 2), (0, 3), (1, 2), (1, 3))),
            (("beside", ("behind", 0, 1), ("behind", 2, 3)), ((0, 1), (2, 3))),
            (("behind", 0, ("beside", 1, ("behind", 3, 2))), ((0, 1), (0, 2), (0, 3), (3, 2))),
        )
        for term, pairs in rows:
            with self.subTest(term=term):
                self.assertEqual(order_of(term).pairs, pairs)

    def check(self, many, term):
        order = order_of(term)
        self.assertIsInstance(order, Order)
        self.assertEqual((order.many, len(order)), (many, many))
        self.assertEqual(order.pairs, pairs_of_term(many, term))
        self.assertEqual(order.pairs, tuple(sorted(followed(order.pairs))))

    def test_all_terms_of_up_to_four_tasks(self):
        for many in range(1, 5):
            for term in all_terms(many):
                self.check(many, term)

    def test_great_and_deep_terms(self):
        for term in great_terms():
            self.check(12, term)

    def test_each_two_tasks_are_tied_in_a_row_alone(self):
        self.assertEqual(len(order_of(("behind", *range(12))).pairs), 66)
        self.assertEqual(order_of(("beside", *range(12))).pairs, ())

    def test_no_four_tasks_stand_in_an_n(self):
        for term in all_terms(4):
            order = order_of(term)
            tied = len(order.pairs)
            for a, b, c, d in permutations(range(4)):
                stand = order.is_ahead(a, c) and order.is_ahead(b, c) and order.is_ahead(b, d)
                self.assertFalse(stand and tied == 3)

    def test_by_name(self):
        self.assertEqual(order_of(term=("behind", 1, 0)).pairs, ((1, 0),))


class Normal(unittest.TestCase):
    """Points [11], [20] and [23]: the normal term."""

    def test_written_out(self):
        rows = (
            (0, 0),
            (("behind", 1, 0), ("behind", 1, 0)),
            (("beside", 1, 0), ("beside", 0, 1)),
            (("behind", 2, ("behind", 1, 0)), ("behind", 2, 1, 0)),
            (("behind", ("behind", 2, 1), 0), ("behind", 2, 1, 0)),
            (("beside", 2, ("beside", 1, 0)), ("beside", 0, 1, 2)),
            (("beside", ("behind", 2, 1), 0), ("beside", 0, ("behind", 2, 1))),
            (("beside", 1, ("behind", 2, 0)), ("beside", ("behind", 2, 0), 1)),
            (("beside", 2, ("behind", 3, 1), 0), ("beside", 0, ("behind", 3, 1), 2)),
            (("beside", ("behind", 3, 1), 2, ("beside", 4, 0)), ("beside", 0, ("behind", 3, 1), 2, 4)),
            (("behind", ("beside", 3, 1), ("beside", 2, 0)), ("behind", ("beside", 1, 3), ("beside", 0, 2))),
            (("behind", ("behind", 3, ("beside", 2, 1)), ("behind", 0, 4)), ("behind", 3, ("beside", 1, 2), 0, 4)),
            (("beside", ("behind", 4, ("beside", 3, 0)), ("behind", 2, 1)),
             ("beside", ("behind", 4, ("beside", 0, 3)), ("behind", 2, 1))),
            (("beside", 10, 9, 8, 7, 6, 5, 4, 3, 2, 1, 0, 11), ("beside", *range(12))),
        )
        for term, expected in rows:
            with self.subTest(term=term):
                self.assertEqual(normal(term), expected)

    def check(self, many, term):
        made = normal(term)
        self.assertIs(is_term(made), True)
        self.assertTrue(is_normal(made))
        self.assertEqual(order_of(made), order_of(term))
        self.assertEqual(pairs_of_term(many, made), pairs_of_term(many, term))
        self.assertEqual(normal(made), made)
        if is_normal(term):
            self.assertEqual(made, term)
        return made

    def test_the_same_one_for_all_terms_of_an_order(self):
        for many, orders in ((1, 1), (2, 3), (3, 19), (4, 195)):
            found = {}
            for term in all_terms(many):
                found.setdefault(pairs_of_term(many, term), set()).add(self.check(many, term))
            self.assertEqual(len(found), orders)
            for several in found.values():
                self.assertEqual(len(several), 1)

    def test_great_and_deep_terms(self):
        for term in great_terms():
            self.check(12, term)

    def test_deep_terms_of_one_word_become_flat(self):
        for left in (True, False):
            self.assertEqual(normal(leaning(("beside",), 12, left)), ("beside", *range(12)))
        self.assertEqual(normal(leaning(("behind",), 12, True)), ("behind", *range(12)))
        self.assertEqual(normal(leaning(("behind",), 12, False)), ("behind", *range(11, -1, -1)))

    def test_parts_beside_ascend_by_their_least_tasks(self):
        made = normal(("beside", ("behind", 7, 3), ("behind", 2, 6), 5, ("behind", ("beside", 4, 1), 0)))
        self.assertEqual(made, ("beside", ("behind", ("beside", 1, 4), 0), ("behind", 2, 6), ("behind", 7, 3), 5))
        self.assertEqual([least(part) for part in made[1:]], [0, 2, 3, 5])

    def test_parts_behind_stay_where_they_stand(self):
        self.assertEqual(normal(("behind", 3, ("beside", 2, 0), 1)), ("behind", 3, ("beside", 0, 2), 1))

    def test_equal_calls_return_equal_results(self):
        term = ("beside", ("beside", 2, 1), ("behind", 3, 0))
        self.assertEqual(normal(term), normal(term))
        self.assertEqual(order_of(term), order_of(term))
        self.assertEqual(term, ("beside", ("beside", 2, 1), ("behind", 3, 0)))

    def test_by_name(self):
        self.assertEqual(normal(term=("beside", 1, 0)), ("beside", 0, 1))


if __name__ == "__main__":
    unittest.main()
