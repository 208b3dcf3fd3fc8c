"""Rows: the longest ones, the widest lots, and rows over an order."""

import unittest
from time import perf_counter

from behindbeside import rows
from behindbeside.orders import Order
from behindbeside.rows import longest, rows_over, widest
from behindbeside.terms import order_of
from tests.plainly import all_orders, all_rows, all_terms, pairs_of_term, wide_lots
from tests.samples import CROWN, N, drawn_orders, drawn_terms, great_orders, great_terms


def lengths_of_term(term):
    """Return the length of the longest rows and the width of a term, as point [52] says."""
    if isinstance(term, int):
        return 1, 1
    lengths, widths = zip(*[lengths_of_term(part) for part in term[1:]])
    return (sum(lengths), max(widths)) if term[0] == "behind" else (max(lengths), sum(widths))


class Interface(unittest.TestCase):
    def test_names_stand_in_their_file(self):
        for function in (longest, widest, rows_over):
            self.assertEqual(function.__module__, "behindbeside.rows")
            self.assertIs(getattr(rows, function.__name__), function)

    def test_by_name(self):
        order = Order(3, [(2, 0)])
        self.assertEqual(longest(order=order), (2, 0))
        self.assertEqual(widest(order=order), (0, 1))
        self.assertEqual(rows_over(order=order), ((1,), (2, 0)))


class RowTests(unittest.TestCase):
    """What each order is asked."""

    def check(self, many, pairs):
        """Compare with all rows and all wide lots."""
        order = Order(many, pairs)
        found = all_rows(many, pairs)
        length = max(len(row) for row in found)
        self.same(longest(order), min(row for row in found if len(row) == length))
        found = wide_lots(many, pairs)
        width = max(len(lot) for lot in found)
        self.same(widest(order), min(lot for lot in found if len(lot) == width))
        self.check_rows(many, pairs, width)
        self.assertEqual((longest(order), widest(order)), (longest(order), widest(order)))
        self.assertEqual(order, Order(many, pairs))

    def same(self, found, expected):
        self.assertEqual(found, expected)
        self.assertIs(type(found), tuple)
        self.assertEqual([type(task) for task in found], [int] * len(expected))

    def check_rows(self, many, pairs, width):
        """See that rows over an order are rows, each task in one of them, and as many as an order has width."""
        order = Order(many, pairs)
        told = set(order.pairs)
        found = rows_over(order)
        self.assertIs(type(found), tuple)
        self.assertEqual(sorted(task for row in found for task in row), list(range(many)))
        for row in found:
            self.assertIs(type(row), tuple)
            self.assertGreater(len(row), 0)
            self.assertEqual([type(task) for task in row], [int] * len(row))
            self.assertTrue(all((a, b) in told for a, b in zip(row, row[1:])))
        firsts = [row[0] for row in found]
        self.assertEqual(firsts, sorted(firsts))
        self.assertEqual(len(found), width)
        self.assertEqual(rows_over(order), found)


class Rows(RowTests):
    """Points [0], [41] and [52]: longest, widest and rows_over."""

    def test_all_orders_of_up_to_five_tasks(self):
        for many in range(1, 6):
            for pairs in all_orders(many):
                self.check(many, pairs)

    def test_orders_of_up_to_nine_tasks(self):
        for many in range(6, 10):
            for pairs in drawn_orders(40 + many, many, 30):
                self.check(many, pairs)

    def test_orders_of_twelve_tasks(self):
        for pairs in great_orders():
            self.check(12, pairs)

    def test_orders_of_terms(self):
        terms = [term for many in range(1, 4) for term in all_terms(many)] + great_terms()
        for many in range(4, 13):
            terms += drawn_terms(70 + many, many, 8)
        for term in terms:
            order = order_of(term)
            length, width = lengths_of_term(term)
            self.assertEqual(len(longest(order)), length)
            self.assertEqual(len(widest(order)), width)
            self.check_rows(order.many, pairs_of_term(order.many, term), width)

    def test_free_tasks(self):
        for many in range(1, 13):
            order = Order(many, [])
            self.same(longest(order), (0,))
            self.same(widest(order), tuple(range(many)))
            self.assertEqual(rows_over(order), tuple((task,) for task in range(many)))

    def test_one_row(self):
        for many in range(1, 13):
            for row in (tuple(range(many)), tuple(range(many - 1, -1, -1)), (*range(1, many), 0)):
                order = Order(many, list(zip(row, row[1:])))
                self.same(longest(order), row)
                self.same(widest(order), (0,))
                self.assertEqual(rows_over(order), (row,))

    def test_two_by_two(self):
        order = Order(12, [(task, task + 6) for task in range(6)])
        self.same(longest(order), (0, 6))
        self.same(widest(order), (0, 1, 2, 3, 4, 5))
        self.assertEqual(rows_over(order), tuple((task, task + 6) for task in range(6)))
        order = Order(12, [(task + 6, task) for task in range(6)])
        self.same(longest(order), (6, 0))
        self.same(widest(order), (0, 1, 2, 3, 4, 5))
        self.assertEqual(rows_over(order), tuple((task + 6, task) for task in range(6)))
        order = Order(12, [(a, b) for a in range(12) for b in range(12) if a // 2 < b // 2])
        self.same(longest(order), (0, 2, 4, 6, 8, 10))
        self.same(widest(order), (0, 1))
        self.check_rows(12, order.pairs, 2)

    def test_the_first_one_counts(self):
        # The first row begins with a greater task than shorter ones; a row goes on with the least task that will do.
        self.same(longest(Order(5, [(0, 1), (3, 2), (2, 4)])), (3, 2, 4))
        self.same(longest(Order(5, [(0, 1), (0, 2), (2, 4), (0, 3), (3, 4)])), (0, 2, 4))
        self.same(longest(Order(6, [(3, 5), (4, 0), (1, 2)])), (1, 2))
        self.same(longest(Order(4, [(3, 1), (2, 0)])), (2, 0))
        # The first wide lot may leave out the least task, or begin with it though others are as wide.
        self.same(widest(Order(4, [(0, 1), (0, 2), (0, 3)])), (1, 2, 3))
        self.same(widest(Order(4, [(1, 0), (3, 2)])), (0, 2))
        self.same(widest(Order(5, [(0, 4), (1, 4), (0, 3), (1, 3)])), (0, 1, 2))
        self.same(widest(Order(5, [(0, 2), (1, 2), (0, 3), (1, 3), (0, 4), (1, 4)])), (2, 3, 4))

    def test_a_row_is_made_anew_for_a_later_task(self):
        # Taken one after another, 0 goes ahead of 2, and 1 finds none; it takes 2, and 0 another one.
        self.assertEqual(rows_over(Order(4, [(0, 2), (0, 3), (1, 2)])), ((0, 3), (1, 2)))
        self.check_rows(6, CROWN, 3)
        self.check_rows(4, N, 2)
        ladder = [(task, task + 6) for task in range(6)] + [(task + 1, task + 6) for task in range(5)]
        self.check_rows(12, ladder, 6)
        self.check_rows(12, [(11 - a, 11 - b) for a, b in ladder], 6)

    def test_rows_skip_tasks(self):
        # 1 stands between 0 and 2, but is wanted in another row.
        pairs = [(0, 1), (1, 2), (3, 1), (1, 4)]
        self.check_rows(5, Order(5, pairs).pairs, 2)
        self.check(5, Order(5, pairs).pairs)


class Time(unittest.TestCase):
    """Answers about orders of twelve tasks come within a second or so."""

    def test_twelve_tasks(self):
        for pairs in great_orders():
            order = Order(12, pairs)
            start = perf_counter()
            self.assertEqual(len(rows_over(order)), len(widest(order)))
            longest(order)
            self.assertLess(perf_counter() - start, 2)


if __name__ == "__main__":
    unittest.main()
