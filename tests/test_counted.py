"""Counted, listed and mended orders."""

import unittest
from fractions import Fraction
from math import factorial
from time import perf_counter

from behindbeside import counted
from behindbeside.counted import count_orders, mended, orders_of
from behindbeside.errors import BadNumber, TaskError, TooGreat
from behindbeside.finding import four_of
from behindbeside.orders import Order
from behindbeside.terms import order_of
from tests.plainly import all_orders, orders_of_terms
from tests.samples import CROWN, N, drawn_orders
from tests.values import no_numbers

MANY = {1: 1, 2: 3, 3: 19, 4: 195, 5: 2791}


class Interface(unittest.TestCase):
    def test_names_stand_in_their_file(self):
        for function in (count_orders, orders_of, mended):
            self.assertEqual(function.__module__, "behindbeside.counted")
            self.assertIs(getattr(counted, function.__name__), function)

    def test_by_name(self):
        self.assertEqual(count_orders(many=3), 19)
        self.assertEqual(len(orders_of(many=2)), 3)
        self.assertEqual(mended(order=Order(2, [(1, 0)])), Order(2, [(1, 0)]))


class CountedTests(unittest.TestCase):
    def refused(self, function, many):
        with self.subTest(function.__name__, value=repr(many)[:60]):
            with self.assertRaises(BadNumber) as caught:
                function(many)
            self.assertIs(caught.exception.value, many)


class CountOrders(CountedTests):
    """Point [53]: count_orders."""

    def test_as_many_as_there_are(self):
        for many, count in MANY.items():
            self.assertEqual(count_orders(many), count)
            self.assertEqual(len(orders_of_terms(many)), count)

    def test_up_to_twelve_tasks(self):
        self.assertEqual([count_orders(many) for many in range(6, 13)],
                         [51303, 1152019, 30564075, 935494831, 32447734143, 1257770533339, 53884306900515])
        self.assertEqual([type(count_orders(many)) for many in range(1, 13)], [int] * 12)

    def test_they_fit_together(self):
        """All orders are sets of those that are no "beside", and rows of those that are no "behind".

        So, as sums over x to the n, divided by n factorial: 1 + all = exp(c) = 1 / (1 - q), and all = q + c - x.
        """
        whole = [Fraction(1)] + [Fraction(count_orders(many), factorial(many)) for many in range(1, 13)]
        q, c = [Fraction(0)], [Fraction(0)]
        for n in range(1, 13):
            # From whole = 1 + q * whole, and from n * whole[n] = sum of k * c[k] * whole[n - k].
            q.append(whole[n] - sum(q[k] * whole[n - k] for k in range(1, n)))
            c.append(whole[n] - Fraction(sum(k * c[k] * whole[n - k] for k in range(1, n)), n))
            self.assertEqual(q[n] + c[n] - (1 if n == 1 else 0), whole[n])

    def test_told_again(self):
        self.assertEqual([count_orders(many) for many in range(1, 13)], [count_orders(many) for many in range(1, 13)])

    def test_any_value_that_is_no_number(self):
        for many in no_numbers(1, 12):
            self.refused(count_orders, many)


class OrdersOf(CountedTests):
    """Point [53]: orders_of."""

    def test_all_of_them(self):
        for many in range(1, 5):
            found = orders_of(many)
            self.assertIs(type(found), tuple)
            self.assertEqual([type(order) for order in found], [Order] * MANY[many])
            self.assertEqual([order.many for order in found], [many] * MANY[many])
            self.assertEqual([order.pairs for order in found], sorted(orders_of_terms(many)))
            self.assertEqual(orders_of(many), found)

    def test_written_out(self):
        self.assertEqual(orders_of(1), (Order(1, []),))
        self.assertEqual(orders_of(2), (Order(2, []), Order(2, [(0, 1)]), Order(2, [(1, 0)])))

    def test_any_value_that_is_no_number(self):
        for many in no_numbers(1, 4) + list(range(5, 14)):
            self.refused(orders_of, many)

    def test_they_are_task_errors(self):
        self.assertRaises(TaskError, count_orders, 0)
        self.assertRaises(TaskError, orders_of, 0)


def bits(many, pairs):
    return sum(1 << (many * a + b) for a, b in pairs)


class Mended(unittest.TestCase):
    """Point [20]: mended."""

    def check(self, order, expected):
        found = mended(order)
        self.assertIs(type(found), Order)
        self.assertEqual((found.many, found.pairs), (order.many, expected))
        self.assertIsNone(four_of(found))
        self.assertEqual(mended(order), found)

    def check_all(self, many, orders):
        """Compare with the first of all orders of terms that have all pairs and fewest more; return those mended."""
        terms = [(bits(many, pairs), pairs) for pairs in sorted(orders_of_terms(many), key=lambda p: (len(p), p))]
        changed = []
        for pairs in orders:
            told = bits(many, pairs)
            expected = next(kept for its, kept in terms if its & told == told)
            self.check(Order(many, pairs), expected)
            if expected != pairs:
                changed.append(len(expected) - len(pairs))
        return changed

    def test_all_orders_of_up_to_four_tasks(self):
        for many in range(1, 5):
            changed = self.check_all(many, all_orders(many))
            self.assertEqual(changed, [1] * len(changed))
            self.assertEqual(len(changed), 24 if many == 4 else 0)

    def test_orders_of_five_tasks(self):
        changed = self.check_all(5, [pairs for pairs in all_orders(5) if four_of(Order(5, pairs))][::3])
        changed += self.check_all(5, all_orders(5)[::40])
        self.assertEqual(set(changed), {1, 2})

    def test_an_order_of_a_term_itself(self):
        for term in (0, ("behind", 0, 1), ("beside", 2, ("behind", 1, 0)), ("behind", ("beside", 4, 1), 0, 3, 2)):
            self.check(order_of(term), order_of(term).pairs)

    def test_the_first_of_several(self):
        # One pair more will do: (0, 3), (1, 0) and (3, 2) here; (1, 0), (2, 1) and (3, 2) there.
        self.check(Order(4, N), ((0, 2), (0, 3), (1, 2), (1, 3)))
        self.check(Order(4, [(2, 0), (3, 0), (3, 1)]), ((1, 0), (2, 0), (3, 0), (3, 1)))

    def test_the_order_is_not_changed(self):
        order = Order(4, N)
        mended(order)
        self.assertEqual(order, Order(4, N))

    def test_more_than_five_tasks(self):
        orders = [Order(many, pairs) for many in range(6, 13) for pairs in ((), N, CROWN, ((0, 1),))]
        orders += [Order(6, pairs) for pairs in drawn_orders(4, 6, 5)]
        for order in orders:
            with self.assertRaises(TooGreat) as caught:
                mended(order)
            self.assertEqual(caught.exception.most, 5)


class Time(unittest.TestCase):
    """The greatest numbers and orders are answered within a second or so."""

    def quick(self, function, *rest):
        start = perf_counter()
        function(*rest)
        self.assertLess(perf_counter() - start, 2)

    def test_greatest(self):
        self.quick(count_orders, 12)
        self.quick(orders_of, 4)
        for pairs in [(), *all_orders(5)[::300], ((0, 2), (1, 2), (1, 3), (4, 3)), ((2, 0), (2, 1), (3, 1), (3, 4))]:
            self.quick(mended, Order(5, pairs))


if __name__ == "__main__":
    unittest.main()
