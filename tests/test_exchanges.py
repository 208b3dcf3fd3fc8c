"""Exchanges: which ones can be made, and which order stands behind them."""

import unittest
from itertools import product

from behindbeside import exchanges
from behindbeside.errors import BadExchange, NoTerm, TaskError, TooGreat
from behindbeside.exchanges import can, done, exchanges_of, walked
from behindbeside.finding import four_of
from behindbeside.orders import Order
from behindbeside.terms import order_of
from tests.plainly import (all_exchanges, all_orders, behind_exchange, fours, is_exchange, lots, orders_of_terms,
                           pairs_of_term, path_to, stand_in_n)
from tests.samples import CROWN, N, Draw, drawn_terms, great_terms
from tests.values import LONG, nested, other_kinds

FUNCTIONS = (can, done, walked)


def has_part(term, task):
    return path_to(term, task) is not None


def parts_beside(term):
    """Return the parts of each "beside" in a term."""
    if isinstance(term, int):
        return []
    found = [term[1:]] if term[0] == "beside" else []
    return found + [parts for part in term[1:] for parts in parts_beside(part)]


def no_lots(many):
    """Return values that are no lots of so many tasks, three or more."""
    return [
        (), [], [0], [0, 1], [2], (1, 0), (2, 1, 0), (0, 2, 1), (0, 0), (1, 1), (0, 1, 1), (0, 0, 1), (-1,), (-1, 0),
        (-many, 1), (many,), (0, many), (0, 1, 2, many), (many + 1,), (LONG,), (0, LONG), (-LONG,), (0, -LONG), 0, 1,
        -1, LONG, -LONG, (0, None), (None,), ("0",), ("0", "1"), (b"0",), ((0,),), ((0, 1),), ([0],), (0, (1,)),
        (0, True), (True,), (False,), (False, 1), (True, 2), (False, True), (0, "1"), (0, 1, []), (0, {}), ({0},),
        (object(),), nested(50, lambda x: (x,), 0), nested(50, lambda x: (0, x), 1), nested(50, lambda x: [x], 0),
        Order(2, []),
    ] + other_kinds()


def no_exchanges(many):
    """Return values that are no exchange on any order of so many tasks, three or more."""
    found = []
    for wrong in no_lots(many):
        found += [(wrong, (2,)), ((2,), wrong), (wrong, wrong), wrong]
    one, other = (0,), (1,)
    shapes = [
        [one, other], (one,), (one, other, (2,)), (one, other, other), (one, other, ()), (one, other, None),
        (one, other, True), ((one, other),), [(one, other)], ((one, other), (one, other)), (0, 1), (0, 1, 2),
        {one: other}, {one, other}, "((0,), (1,))", (one, [1]), ([0], other), ([0], [1]), [[0], [1]],
        nested(50, lambda x: (x, other), one), nested(50, lambda x: (one, x), other),
    ]
    # A task in both lots, or told twice.
    twice = [(one, one), ((0, 1), (1, 2)), ((0, 1), (0, 1)), ((0,), (0, 1)), ((0, 1), (1,)), ((1, 2), (0, 1)),
             ((0, 0), (1,)), ((0,), (1, 1)), ((0, 2), (1, 2))]
    return found + shapes + twice


class Interface(unittest.TestCase):
    def test_names_stand_in_their_file(self):
        for function in (can, done, walked, exchanges_of):
            self.assertEqual(function.__module__, "behindbeside.exchanges")
            self.assertIs(getattr(exchanges, function.__name__), function)

    def test_by_name_and_in_another_order(self):
        order, tighter = Order(2, []), Order(2, [(1, 0)])
        exchange = ((1,), (0,))
        self.assertIs(can(order=order, exchange=exchange), True)
        self.assertIs(can(exchange=exchange, order=order), True)
        self.assertIs(can(exchange=exchange, order=tighter), False)
        self.assertEqual(done(order=order, exchange=exchange), tighter)
        self.assertEqual(done(exchange=exchange, order=order), tighter)
        self.assertEqual(walked(order=order, exchanges=[exchange]), tighter)
        self.assertEqual(walked(exchanges=[exchange], order=order), tighter)
        self.assertEqual(exchanges_of(order=order), (((0,), (1,)), exchange))
        self.assertIs(can(order, exchange=exchange), True)
        self.assertEqual(done(order, exchange=exchange), tighter)
        self.assertEqual(walked(order, exchanges=(exchange,)), tighter)


class ExchangeTests(unittest.TestCase):
    """What an order is asked about two lots."""

    def check(self, order, front, back):
        """Compare with the words of the document, and return whether it is an exchange."""
        many, pairs = order.many, order.pairs
        expected = is_exchange(many, set(pairs), front, back)
        self.assertIs(can(order, (front, back)), expected)
        if expected:
            made = done(order, (front, back))
            self.assertIsInstance(made, Order)
            self.assertEqual((made.many, made.pairs), (many, behind_exchange(pairs, front, back)))
            self.assertLess(set(pairs), set(made.pairs))
            self.assertIsNone(four_of(made))
        else:
            self.refused(order, (front, back))
        self.assertEqual((order.many, order.pairs), (many, pairs))
        return expected

    def refused(self, order, value):
        with self.assertRaises(BadExchange) as caught:
            done(order, value)
        self.assertEqual(caught.exception.place, 0)
        self.assertIs(type(caught.exception.place), int)


class Can(ExchangeTests):
    """Points [14] and [21]: can and done of two lots."""

    def test_all_lots_of_all_small_orders(self):
        found = 0
        for many in range(1, 5):
            for pairs in orders_of_terms(many):
                order = Order(many, pairs)
                for front, back in product(lots(many), repeat=2):
                    found += self.check(order, front, back)
        self.assertGreater(found, 1000)

    def test_all_lots_of_some_orders_of_five_and_six_tasks(self):
        for many, count in ((5, 12), (6, 4)):
            for term in drawn_terms(20 + many, many, count):
                order = order_of(term)
                for front, back in product(lots(many), repeat=2):
                    self.check(order, front, back)

    def test_one_task_has_no_exchange(self):
        self.assertIs(can(Order(1, []), ((0,), (0,))), False)
        self.refused(Order(1, []), ((0,), (0,)))

    def test_two_tasks(self):
        for pairs, expected in (((), True), (((0, 1),), False), (((1, 0),), False)):
            self.assertIs(can(Order(2, pairs), ((0,), (1,))), expected)
            self.assertIs(can(Order(2, pairs), ((1,), (0,))), expected)
        self.assertEqual(done(Order(2, []), ((0,), (1,))), Order(2, [(0, 1)]))

    def test_two_rows_side_by_side(self):
        order = Order(4, [(0, 1), (2, 3)])
        self.assertEqual(done(order, ((0, 2), (1, 3))), Order(4, [(0, 1), (0, 3), (2, 1), (2, 3)]))
        self.assertEqual(done(order, ((0, 1), (2, 3))).pairs, ((0, 1), (0, 2), (0, 3), (1, 2), (1, 3), (2, 3)))
        self.assertEqual(done(order, ((0,), (1, 2, 3))).pairs, ((0, 1), (0, 2), (0, 3), (2, 3)))
        self.assertEqual(done(order, ((0, 1, 2), (3,))).pairs, ((0, 1), (0, 3), (1, 3), (2, 3)))
        # A set that hangs together has first and last tasks, but not one ahead of another.
        for wrong in (((1, 2), (0, 3)), ((1, 3), (0, 2)), ((1,), (0, 2, 3)), ((0, 1, 3), (2,))):
            self.assertIs(can(order, wrong), False)
        # Another task is tied to some of them alone; or all of them hang together.
        for wrong in (((0,), (2,)), ((0,), (3,)), ((0, 2), (1,)), ((0,), (1,)), ((2,), (3,)), ((0, 2), (3,))):
            self.assertIs(can(order, wrong), False)

    def test_a_set_with_tasks_of_one_lot_alone(self):
        order = Order(5, [(0, 1)])
        for front, back in (((0, 2), (1,)), ((0,), (1, 2)), ((0, 2, 3), (1, 4)), ((2, 3), (0, 1)), ((0, 1), (2,)),
                            ((2,), (3,)), ((2, 3), (4,))):
            self.assertTrue(self.check(order, front, back))
        for front, back in (((2,), (0,)), ((1,), (0, 2)), ((0,), (1,)), ((0,), (2,)), ((1,), (2, 3))):
            self.assertFalse(self.check(order, front, back))

    def test_other_tasks_ahead_and_behind(self):
        order = order_of(("behind", 0, ("beside", 1, 2, ("behind", 3, 4)), 5))
        for front, back in (((1,), (2,)), ((2,), (1,)), ((1, 3), (4,)), ((1, 2), (3, 4)), ((1, 3), (2, 4))):
            self.assertTrue(self.check(order, front, back))
        # With a task that is ahead of all others, or behind them, all hang together.
        for front, back in (((0, 1), (2,)), ((0,), (1, 2)), ((1,), (2, 5)), ((1, 2), (5,)), ((0,), (5,))):
            self.assertFalse(self.check(order, front, back))

    def test_tasks_that_hang_together_by_no_direct_tie(self):
        order = order_of(("behind", ("beside", 0, 1), ("beside", 2, 3)))
        for front, back in (((0, 1), (2, 3)), ((0,), (1, 2, 3)), ((0, 2), (1, 3))):
            self.assertFalse(self.check(order, front, back))
        for front, back in (((0,), (1,)), ((1,), (0,)), ((2,), (3,)), ((3,), (2,))):
            self.assertTrue(self.check(order, front, back))

    def test_orders_of_twelve_tasks(self):
        draw = Draw(9)
        found = 0
        for term in great_terms() + drawn_terms(31, 12, 20):
            order = order_of(term)
            besides = parts_beside(term)
            for _ in range(40):
                # Of some parts side by side, those behind few tasks and those behind more; or any tasks at all.
                parts = draw.some(besides[draw.below(len(besides))] if besides else range(12))
                both = sorted(task for part in parts for task in range(12) if has_part(part, task))
                limit = draw.below(3)
                front = [task for task in both if sum(order.is_ahead(other, task) for other in both) <= limit]
                if draw.below(4) == 0:
                    front = draw.some(both)
                back = [task for task in both if task not in front]
                if front and back:
                    found += self.check(order, tuple(front), tuple(back))
        self.assertGreater(found, 100)

    def test_twelve_tasks_side_by_side(self):
        order = Order(12, [])
        self.assertEqual(done(order, (tuple(range(6)), tuple(range(6, 12)))).pairs,
                         tuple((one, other) for one in range(6) for other in range(6, 12)))
        self.assertEqual(done(order, ((11,), (0,))).pairs, ((11, 0),))
        self.assertEqual(len(done(order, ((5,), (*range(5), *range(6, 12)))).pairs), 11)
        self.assertIs(can(order, ((0,), (12,))), False)
        self.assertIs(can(order_of(("behind", *range(12))), ((0,), (11,))), False)

    def test_two_by_two(self):
        order = Order(12, [(task, task + 6) for task in range(6)])
        made = done(order, (tuple(range(6)), tuple(range(6, 12))))
        self.assertEqual(made.pairs, tuple((one, other) for one in range(6) for other in range(6, 12)))
        self.assertTrue(self.check(order, (0, 4), (6, 10)))
        self.assertFalse(self.check(order, (0, 4), (6, 11)))

    def test_told_again(self):
        order = Order(4, [(0, 1), (2, 3)])
        exchange = ((0, 2), (1, 3))
        made = done(order, exchange)
        self.assertEqual(done(order, exchange), made)
        self.assertIs(can(order, exchange), True)
        self.assertIs(can(order, exchange), True)
        self.assertIs(can(made, exchange), False)


class OtherValues(ExchangeTests):
    """Points [2] and [14]: can of any value, done of any value that is no exchange."""

    def test_values_that_are_no_exchange(self):
        for order in (Order(3, []), Order(3, [(0, 1)]), Order(4, []), Order(12, [])):
            for value in no_exchanges(order.many):
                with self.subTest(many=order.many, value=repr(value)[:60]):
                    self.assertIs(can(order, value), False)
                    self.refused(order, value)

    def test_orders_of_one_and_two_tasks(self):
        for many in (1, 2):
            for value in no_exchanges(12) + no_exchanges(3):
                with self.subTest(many=many, value=repr(value)[:60]):
                    if value not in (((0,), (1,)), ((1,), (0,))) or many == 1:
                        self.assertIs(can(Order(many, []), value), False)
                        self.refused(Order(many, []), value)

    def test_true_is_no_task(self):
        order = Order(3, [])
        self.assertIs(can(order, ((0, 1), (2,))), True)
        for value in (((0, True), (2,)), ((False, 1), (2,)), ((2,), (0, True)), ((2,), (False,)), ((True,), (False,))):
            self.assertIs(can(order, value), False)
            self.refused(order, value)

    def test_a_list_that_is_passed_is_not_changed(self):
        value = [[1, 0], [2]]
        self.assertIs(can(Order(3, []), value), False)
        self.refused(Order(3, []), value)
        self.assertEqual(value, [[1, 0], [2]])

    def test_it_is_a_task_error(self):
        self.assertRaises(TaskError, done, Order(2, []), None)
        self.assertRaises(TaskError, walked, Order(2, []), None)


class Walked(unittest.TestCase):
    """Point [14]: walked."""

    def refused(self, order, value, place):
        with self.assertRaises(BadExchange) as caught:
            walked(order, value)
        if place is None:
            self.assertIsNone(caught.exception.place)
        else:
            self.assertEqual(caught.exception.place, place)
            self.assertIs(type(caught.exception.place), int)

    def test_none(self):
        for order in (Order(1, []), Order(4, [(0, 1)]), Order(12, [])):
            for several in ([], ()):
                made = walked(order, several)
                self.assertIsInstance(made, Order)
                self.assertEqual(made, order)

    def test_some_one_after_another(self):
        order = Order(4, [(0, 1)])
        steps = [((2,), (3,)), ((0, 2), (1, 3)), ((0,), (2,)), ((1,), (3,))]
        pairs = order.pairs
        for count, (front, back) in enumerate(steps):
            self.assertEqual(walked(order, steps[:count]).pairs, pairs)
            self.assertEqual(walked(order, tuple(steps[:count])).pairs, pairs)
            pairs = behind_exchange(pairs, front, back)
        self.assertEqual(walked(order, steps), Order(4, [(0, 2), (2, 1), (1, 3)]))
        self.assertEqual(order.pairs, ((0, 1),))
        self.assertEqual(steps, [((2,), (3,)), ((0, 2), (1, 3)), ((0,), (2,)), ((1,), (3,))])

    def test_twelve_tasks_into_a_row(self):
        steps = [((task,), tuple(range(task + 1, 12))) for task in range(11)]
        self.assertEqual(walked(Order(12, []), steps), order_of(("behind", *range(12))))

    def test_drawn_exchanges(self):
        draw = Draw(77)
        for term in drawn_terms(40, 5, 25):
            order = order_of(term)
            pairs, steps = order.pairs, []
            while True:
                left = all_exchanges(5, pairs)
                if not left:
                    break
                steps.append(left[draw.below(len(left))])
                pairs = behind_exchange(pairs, *steps[-1])
                self.assertEqual(walked(order, steps).pairs, pairs)
            self.assertEqual(len(pairs), 10)

    def test_any_other_value(self):
        for order in (Order(1, []), Order(3, [(0, 1)]), Order(12, [])):
            for value in other_kinds() + [0, 1, LONG, order, {((0,), (1,)): True}, {((0,), (1,))},
                                          iter([((0,), (1,))]), "((0,), (1,))"]:
                with self.subTest(repr(value)[:60]):
                    self.refused(order, value, None)

    def test_items_that_are_no_exchange(self):
        order = Order(3, [])
        for item in no_exchanges(3):
            with self.subTest(repr(item)[:60]):
                self.refused(order, [item], 0)
                self.refused(order, (item,), 0)
                self.refused(order, [((0,), (1, 2)), item], 1)
                self.refused(order, (((0,), (1, 2)), ((1,), (2,)), item, ((0,), (1,))), 2)

    def test_an_exchange_in_the_place_of_the_list(self):
        self.refused(Order(3, []), ((0,), (1,)), 0)

    def test_on_the_order_as_it_then_is(self):
        order = Order(3, [])
        first, second = ((0,), (1, 2)), ((1,), (2,))
        self.assertEqual(walked(order, [first, second]), order_of(("behind", 0, 1, 2)))
        self.refused(order, [first, first], 1)
        self.refused(order, [first, second, first], 2)
        self.refused(order, [first, second, second], 2)
        # Each one can be made on the first order; the second one no more behind the first one.
        for one, other in ((((0,), (1,)), ((1,), (2,))), (((0,), (1,)), ((1,), (0,))), (((0,), (1,)), ((0,), (2,)))):
            self.assertTrue(can(order, one) and can(order, other))
            self.refused(order, [one, other], 1)
        # The second one cannot be made at once, but behind the first one.
        order = Order(3, [(0, 2)])
        first, second = ((0, 1), (2,)), ((0,), (1,))
        self.refused(order, [second, first], 0)
        self.refused(order, [first, second, first], 2)
        self.assertEqual(walked(order, [first, second]), order_of(("behind", 0, 1, 2)))

    def test_the_first_wrong_item_counts(self):
        order = Order(2, [])
        self.refused(order, [None, None], 0)
        self.refused(order, [((0,), (1,)), None, ((0,), (2,))], 1)
        self.refused(order, [((0,), (1,)), ((0,), (1,)), None], 1)

    def test_a_long_list(self):
        self.refused(Order(2, []), [((0,), (1,))] * 1000, 1)

    def test_the_list_is_not_changed(self):
        order = Order(3, [])
        steps = [((0,), (1, 2)), ((1,), (2,))]
        walked(order, steps)
        self.assertEqual(steps, [((0,), (1, 2)), ((1,), (2,))])
        steps.append("x")
        self.refused(order, steps, 2)
        self.assertEqual(steps, [((0,), (1, 2)), ((1,), (2,)), "x"])
        self.assertEqual(order, Order(3, []))


class ExchangesOf(unittest.TestCase):
    """Point [14]: exchanges_of."""

    def check(self, many, pairs):
        order = Order(many, pairs)
        found = exchanges_of(order)
        self.assertIsInstance(found, tuple)
        self.assertEqual(found, tuple(all_exchanges(many, order.pairs)))
        self.assertEqual(found, tuple(sorted(set(found))))
        self.assertEqual(exchanges_of(order), found)
        self.assertEqual(order, Order(many, pairs))

    def test_all_orders_of_up_to_four_tasks(self):
        for many in range(1, 5):
            for pairs in orders_of_terms(many):
                self.check(many, pairs)

    def test_orders_of_five_and_six_tasks(self):
        for many, count in ((5, 20), (6, 10)):
            for term in drawn_terms(60 + many, many, count):
                self.check(many, pairs_of_term(many, term))
        for term in (("beside", *range(6)), ("behind", *range(6)), ("beside", ("behind", 0, 1), ("behind", 3, 2), 5, 4),
                     ("beside", ("behind", 5, 0, 3), ("behind", 1, 4, 2)), ("behind", ("beside", 0, 5), 1, 2, 3, 4)):
            self.check(6, pairs_of_term(6, term))

    def test_written_out(self):
        self.assertEqual(exchanges_of(Order(1, [])), ())
        self.assertEqual(exchanges_of(Order(2, [])), (((0,), (1,)), ((1,), (0,))))
        self.assertEqual(exchanges_of(Order(2, [(0, 1)])), ())
        self.assertEqual(exchanges_of(Order(3, [(2, 0)])),
                         (((0, 2), (1,)), ((1,), (0, 2)), ((1, 2), (0,)), ((2,), (0, 1))))
        self.assertEqual(exchanges_of(Order(3, [(0, 1), (0, 2)])), (((1,), (2,)), ((2,), (1,))))
        self.assertEqual(exchanges_of(order_of(("behind", *range(6)))), ())

    def test_too_many_tasks(self):
        for many in range(7, 13):
            for order in (Order(many, []), order_of(("behind", *range(many)))):
                with self.assertRaises(TooGreat) as caught:
                    exchanges_of(order)
                self.assertEqual(caught.exception.most, 6)
        self.assertEqual(len(exchanges_of(Order(6, []))), len(all_exchanges(6, ())))


class NoTerms(unittest.TestCase):
    """NoTerm(four) first, whatever the second argument is and however many tasks there are."""

    def refused(self, function, order, *rest):
        with self.assertRaises(NoTerm) as caught:
            function(order, *rest)
        four = caught.exception.four
        self.assertIsInstance(four, tuple)
        self.assertTrue(stand_in_n(set(order.pairs), four))
        for task in four:
            self.assertIs(type(task), int)

    def orders(self):
        return [Order(4, N), Order(5, N), Order(6, CROWN), Order(6, N), Order(7, N), Order(12, N), Order(12, CROWN),
                Order(12, [(one + 4, other + 4) for one, other in CROWN])]

    def test_all_functions(self):
        for order in self.orders():
            self.refused(exchanges_of, order)
            for function in FUNCTIONS:
                for value in ([], (), [((0,), (1,))], (((0,), (1,)),), ((0,), (1,)), ((0,), (5,)), None, 0, "x"):
                    self.refused(function, order, value)

    def test_whatever_the_second_argument_is(self):
        order = Order(4, N)
        for value in no_exchanges(4):
            for function in FUNCTIONS:
                with self.subTest(function.__name__, value=repr(value)[:60]):
                    self.refused(function, order, value)

    def test_all_orders_of_four_tasks(self):
        found = [pairs for pairs in all_orders(4) if fours(4, pairs)]
        self.assertEqual(len(found), 24)
        for pairs in found:
            order = Order(4, pairs)
            self.refused(exchanges_of, order)
            for front, back in product(lots(4), repeat=2):
                self.refused(can, order, (front, back))
                self.refused(done, order, (front, back))
                self.refused(walked, order, [(front, back)])

    def test_nothing_else_happens(self):
        order = Order(4, N)
        steps = [((0,), (1,))]
        self.refused(walked, order, steps)
        self.assertEqual(steps, [((0,), (1,))])
        self.assertEqual(order, Order(4, N))


if __name__ == "__main__":
    unittest.main()
