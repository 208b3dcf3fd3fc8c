"""Leading: exchanges from one order of a term to another one, or a pair that is lacking."""

import unittest
from itertools import permutations, product
from time import perf_counter

from behindbeside import leading
from behindbeside.errors import Lacks, NoTerm, OtherTasks, TaskError
from behindbeside.exchanges import walked
from behindbeside.finding import is_paper, paper
from behindbeside.leading import is_way_paper, lead, way_paper
from behindbeside.orders import Order
from behindbeside.terms import order_of
from tests.plainly import all_exchanges, behind_all, behind_exchange, orders_of_terms, pairs_of_term, stand_in_n
from tests.samples import CROWN, N, Draw, drawn_terms, great_terms, loose_and_tight
from tests.values import LONG, nested, other_kinds

FUNCTIONS = (lead, way_paper)


class Interface(unittest.TestCase):
    def test_names_stand_in_their_file(self):
        for function in (lead, way_paper, is_way_paper):
            self.assertEqual(function.__module__, "behindbeside.leading")
            self.assertIs(getattr(leading, function.__name__), function)

    def test_by_name_and_in_another_order(self):
        one, other = Order(2, []), Order(2, [(1, 0)])
        steps = (((1,), (0,)),)
        self.assertEqual(lead(one=one, other=other), steps)
        self.assertEqual(lead(other=other, one=one), steps)
        self.assertEqual(lead(one, other=other), steps)
        self.assertEqual(way_paper(one=one, other=other), ("exchanges", steps))
        self.assertEqual(way_paper(other=other, one=one), ("exchanges", steps))
        self.assertEqual(way_paper(other=one, one=other), ("pair", 1, 0))
        self.assertIs(is_way_paper(one=one, other=other, value=("exchanges", steps)), True)
        self.assertIs(is_way_paper(value=("exchanges", steps), other=other, one=one), True)
        self.assertIs(is_way_paper(one, value=("pair", 1, 0), other=other), False)
        self.assertIs(is_way_paper(value=("pair", 1, 0), other=one, one=other), True)


class LeadingTests(unittest.TestCase):
    """What each two orders of terms are asked."""

    def check(self, one, other):
        """Compare with the pairs of the two, and return the way paper."""
        lacking = sorted(set(one.pairs) - set(other.pairs))
        told = way_paper(one, other)
        self.assertIsInstance(told, tuple)
        if lacking:
            word, *pair = told
            self.assertEqual(word, "pair")
            self.assertIn(tuple(pair), lacking)
            self.lacks(one, other, lacking[0])
        else:
            word, steps = told
            self.assertEqual(word, "exchanges")
            self.leads(one, other, steps)
            self.leads(one, other, lead(one, other))
            self.assertEqual(lead(one, other), lead(one, other))
        self.assertIs(is_way_paper(one, other, told), True)
        self.assertEqual(way_paper(one, other), told)
        return told

    def leads(self, one, other, steps):
        self.assertIsInstance(steps, tuple)
        self.assertEqual(behind_all(one.many, one.pairs, steps), other.pairs)

    def lacks(self, one, other, pair):
        with self.assertRaises(Lacks) as caught:
            lead(one, other)
        self.assertEqual(caught.exception.pair, pair)
        self.assertIsInstance(caught.exception.pair, tuple)


class Lead(LeadingTests):
    """Points [0], [15], [21] and [22]: lead and way_paper."""

    def test_all_small_orders(self):
        for many in range(1, 4):
            orders = [Order(many, pairs) for pairs in orders_of_terms(many)]
            for one, other in product(orders, repeat=2):
                self.check(one, other)

    def test_all_orders_of_four_tasks_that_have_all_pairs(self):
        orders = [Order(4, pairs) for pairs in orders_of_terms(4)]
        found = 0
        for one, other in product(orders, repeat=2):
            if set(one.pairs) <= set(other.pairs):
                self.check(one, other)
                found += 1
        self.assertGreater(found, 1000)

    def test_orders_of_four_tasks_that_lack_pairs(self):
        orders = [Order(4, pairs) for pairs in orders_of_terms(4)]
        for one, other in list(product(orders, repeat=2))[::11]:
            if not set(one.pairs) <= set(other.pairs):
                self.check(one, other)

    def test_orders_of_five_tasks(self):
        orders = [Order(5, pairs) for pairs in orders_of_terms(5)]
        sparse = [order for order in orders if len(order.pairs) <= 3][::40]
        for one in sparse + orders[5::500]:
            for other in orders[::20]:
                if set(one.pairs) <= set(other.pairs):
                    self.check(one, other)

    def test_orders_of_up_to_twelve_tasks(self):
        for many, count in ((6, 20), (8, 12), (10, 6), (12, 8)):
            for loose, tight in loose_and_tight(many, many, count):
                self.check(Order(many, loose), Order(many, tight))

    def test_orders_of_twelve_tasks_that_lack_pairs(self):
        orders = [order_of(term) for term in great_terms()]
        for one, other in product(orders, repeat=2):
            self.check(one, other)

    def test_behind_drawn_exchanges(self):
        draw = Draw(3)
        for term in drawn_terms(8, 6, 10):
            order = order_of(term)
            pairs = order.pairs
            for _ in range(3):
                left = all_exchanges(6, pairs)
                if left:
                    pairs = behind_exchange(pairs, *left[draw.below(len(left))])
                self.check(order, Order(6, pairs))

    def test_each_word_put_in_the_place_of_the_other_one(self):
        for first, second in product(("behind", "beside"), repeat=2):
            for third, fourth in permutations(("behind", "beside")):
                loose = ("beside", (first, 0, 1, (second, 2, 3)), (second, (first, 4, 5), 6, 7))
                tight = (third, (first, 0, 1, (second, 2, 3)), (fourth, (first, 4, 5), 6, 7))
                self.check(order_of(loose), order_of(tight))

    def test_the_same_order_twice(self):
        for order in (Order(1, []), Order(12, []), order_of(("behind", *range(12))), Order(4, [(0, 1), (2, 3)])):
            self.assertEqual(lead(order, order), ())
            self.assertEqual(lead(order, Order(order.many, order.pairs)), ())
            self.assertEqual(way_paper(order, order), ("exchanges", ()))
            self.assertIs(is_way_paper(order, order, ("exchanges", ())), True)
        for term in great_terms():
            self.assertEqual(lead(order_of(term), order_of(term)), ())

    def test_the_interchange(self):
        one = Order(4, [(0, 1), (2, 3)])
        other = order_of(("behind", ("beside", 0, 2), ("beside", 1, 3)))
        self.assertEqual(walked(one, lead(one, other)), other)
        self.assertEqual(behind_all(4, one.pairs, lead(one, other)), other.pairs)
        self.lacks(other, one, (0, 3))

    def test_from_no_pairs_to_a_row(self):
        for many in range(1, 13):
            row = order_of(("behind", *range(many - 1, -1, -1)) if many > 1 else 0)
            self.leads(Order(many, []), row, lead(Order(many, []), row))

    def test_the_first_pair_that_lacks(self):
        one = Order(5, [(4, 0), (4, 1), (3, 2)])
        self.lacks(one, Order(5, []), (3, 2))
        self.lacks(one, Order(5, [(3, 2)]), (4, 0))
        self.lacks(one, Order(5, [(3, 2), (4, 0)]), (4, 1))
        self.lacks(one, Order(5, [(2, 3), (4, 0), (4, 1)]), (3, 2))
        row = order_of(("behind", *range(12)))
        self.lacks(row, Order(12, []), (0, 1))
        self.lacks(row, order_of(("behind", ("beside", 0, 1), *range(2, 12))), (0, 1))
        self.lacks(row, order_of(("behind", *range(10), 11, 10)), (10, 11))
        self.lacks(Order(4, [(0, 1), (1, 2)]), Order(4, [(0, 1)]), (0, 2))

    def test_the_orders_are_not_changed(self):
        one, other = Order(4, [(0, 1)]), order_of(("behind", 0, 1, 2, 3))
        lead(one, other)
        way_paper(one, other)
        way_paper(other, one)
        is_way_paper(one, other, way_paper(one, other))
        self.assertEqual((one, other), (Order(4, [(0, 1)]), order_of(("behind", 0, 1, 2, 3))))

    def test_it_is_a_task_error(self):
        self.assertRaises(TaskError, lead, Order(2, [(0, 1)]), Order(2, []))


class WayPapers(LeadingTests):
    """Point [15]: is_way_paper of any value."""

    def refused(self, one, other, value):
        with self.subTest(repr(value)[:60]):
            self.assertIs(is_way_paper(one, other, value), False)

    def test_all_pairs(self):
        orders = [Order(3, pairs) for pairs in orders_of_terms(3)]
        for one, other in product(orders, repeat=2):
            for a, b in product(range(-1, 4), repeat=2):
                expected = (a, b) in one.pairs and (a, b) not in other.pairs
                self.assertIs(is_way_paper(one, other, ("pair", a, b)), expected)

    def test_all_pairs_of_twelve_tasks(self):
        one = order_of(("beside", ("behind", 11, 0, 5), ("behind", 1, ("beside", 2, 3, 4)), ("behind", 6, 7, 8, 9, 10)))
        other = order_of(("behind", 0, ("beside", 11, 5), 6, 7, 9, 8, 10, 1, 2, 3, 4))
        found = [pair for pair in product(range(12), repeat=2) if is_way_paper(one, other, ("pair", *pair))]
        self.assertEqual(found, [(8, 9), (11, 0), (11, 5)])

    def test_short_ways_between_all_orders(self):
        orders = [Order(3, pairs) for pairs in orders_of_terms(3)]
        steps = [exchange for one in orders for exchange in all_exchanges(3, one.pairs)]
        ways = [(), *[(step,) for step in sorted(set(steps))], *product(sorted(set(steps)), repeat=2)]
        for one in orders:
            for way in ways[::3]:
                reached = behind_all(3, one.pairs, way)
                for other in orders[::2]:
                    self.assertIs(is_way_paper(one, other, ("exchanges", way)), reached == other.pairs)

    def test_other_exchanges_that_lead_there(self):
        one, other = Order(3, []), order_of(("behind", 0, 1, 2))
        ways = ((((0,), (1, 2)), ((1,), (2,))), (((0, 1), (2,)), ((0,), (1,))), (((1,), (2,)), ((0,), (1, 2))),
                (((0,), (1,)), ((0, 1), (2,))), (((0,), (2,)), ((0, 1), (2,)), ((0,), (1,))))
        for way in ways:
            self.assertEqual(behind_all(3, (), way), other.pairs)
            self.assertIs(is_way_paper(one, other, ("exchanges", way)), True)

    def test_exchanges_that_lead_elsewhere_or_cannot_be_made(self):
        one, other = Order(3, []), order_of(("behind", 0, 1, 2))
        for way in ((), (((0,), (1, 2)),), (((0,), (1, 2)), ((2,), (1,))), (((0, 1), (2,)),), (((0,), (1,)),),
                    (((0,), (1, 2)), ((1,), (2,)), ((1,), (2,))), (((0,), (1,)), ((1,), (2,))),
                    (((0,), (1, 2)), ((1,), (3,))), (((0,), (1, 2)), ((1,), (2,)), ()),
                    (((0,), (1, 2)), ((1,), (2,)), None), (None,), ((0, 1),), (0,), (((0,), (2, 1)), ((1,), (2,))),
                    (((0,), (1, 2)), ((True,), (2,))), (((False,), (1, 2)), ((1,), (2,))),
                    ([(0,), (1, 2)], ((1,), (2,))), (((0,), [1, 2]), ((1,), (2,)))):
            self.refused(one, other, ("exchanges", way))

    def test_a_list_in_the_place_of_a_tuple(self):
        one, other = Order(3, []), order_of(("behind", 0, 1, 2))
        steps = (((0,), (1, 2)), ((1,), (2,)))
        self.assertIs(is_way_paper(one, other, ("exchanges", steps)), True)
        self.refused(one, other, ("exchanges", list(steps)))
        self.refused(one, other, ["exchanges", steps])
        self.refused(one, other, ["exchanges", list(steps)])
        self.refused(one, one, ("exchanges", []))
        self.refused(other, one, ["pair", 0, 1])

    def test_pairs_that_lack(self):
        one, other = Order(4, [(0, 1), (0, 2)]), Order(4, [(1, 3)])
        for value in (("pair", 0, 1), ("pair", 0, 2)):
            self.assertIs(is_way_paper(one, other, value), True)
        for value in (("pair", 1, 3), ("pair", 1, 0), ("pair", 0, 3), ("pair", 0, 0), ("pair", 0, 4), ("pair", 0, -3),
                      ("pair", 4, 5), ("pair", 0, True), ("pair", False, 1), ("pair", False, True), ("pair", 0),
                      ("pair",), ("pair", 0, 1, 2), ("pair", 0, 1, None), ("pair", (0, 1)), ("pair", [0, 1]),
                      ("pair", 0, "1"), ("pair", 0, (1,)), ("pair", LONG, 1), ("pair", 0, -LONG), (0, 1), ("pair", ()),
                      ("pair", 0, [1]), ("pair", {}, 1), ("Pair", 0, 1), ("pairs", 0, 1), ("exchanges", 0, 1)):
            self.refused(one, other, value)

    def test_a_paper_of_the_other_sort_never_fits(self):
        one, other = Order(2, []), Order(2, [(0, 1)])
        for value in (("pair", 0, 1), ("pair", 1, 0)):
            self.refused(one, other, value)
            self.refused(one, one, value)
            self.refused(other, other, value)
        for way in ((), (((0,), (1,)),), (((1,), (0,)),)):
            self.refused(other, one, ("exchanges", way))

    def test_other_words_and_shapes(self):
        one, other = Order(2, []), Order(2, [(0, 1)])
        step = ((0,), (1,))
        self.assertIs(is_way_paper(one, other, ("exchanges", (step,))), True)
        for word in ("Exchanges", "EXCHANGES", "exchange", "exchanges ", "", "pair", "term", "four", "way",
                     b"exchanges", ("exchanges",), ["exchanges"], 0, 1, LONG, *other_kinds()):
            self.refused(one, other, (word, (step,)))
            self.refused(other, one, (word if word != "pair" else "", 0, 1))
        for value in (("exchanges",), ("exchanges", step), ("exchanges", *step), ("exchanges", (step,), None),
                      ("exchanges", (step,), (step,)), ((step,), "exchanges"), (step,), step, (("exchanges", (step,)),),
                      ("exchanges", ((step,),)), ("exchanges", {step}), ("exchanges", {step: True}),
                      ("exchanges", None), ("exchanges", "((0,), (1,))"), {"exchanges": (step,)}, (), [], "exchanges",
                      ("exchanges", other), other, 0, LONG, ("exchanges", iter([step]))):
            self.refused(one, other, value)

    def test_other_kinds(self):
        one, other = Order(2, []), Order(2, [(0, 1)])
        for first, second in ((one, other), (other, one), (one, one)):
            for value in other_kinds():
                self.refused(first, second, value)
                self.refused(first, second, ("exchanges", value))
                self.refused(first, second, ("exchanges", (value,)))
                self.refused(first, second, ("pair", value, 1))
                self.refused(first, second, ("pair", 0, value))

    def test_values_nested_deep(self):
        one, other = Order(2, []), Order(2, [(0, 1)])
        for first, second in ((one, other), (other, one), (one, one)):
            for value in (nested(50, lambda x: ("exchanges", x), ()), nested(50, lambda x: (x,), 0),
                          ("exchanges", nested(49, lambda x: (x,), 0)), ("exchanges", nested(49, lambda x: (x, x), 0)),
                          ("pair", nested(49, lambda x: (x,), 0), 1), ("pair", 0, nested(49, lambda x: [x], 1)),
                          nested(49, lambda x: ("pair", x, 1), 0)):
                with self.subTest(one=first.pairs):
                    self.assertIs(is_way_paper(first, second, value), False)

    def test_a_list_that_is_passed_is_not_changed(self):
        value = ["exchanges", [((0,), (1,))]]
        self.assertIs(is_way_paper(Order(2, []), Order(2, [(0, 1)]), value), False)
        self.assertIs(is_way_paper(Order(2, []), Order(2, [(0, 1)]), tuple(value)), False)
        self.assertEqual(value, ["exchanges", [((0,), (1,))]])


class Refused(unittest.TestCase):
    """NoTerm of the first order that is no term's, then OtherTasks, then Lacks."""

    def calls(self, one, other):
        calls = [lambda function=function: function(one, other) for function in FUNCTIONS]
        values = [("exchanges", ()), ("exchanges", (((0,), (1,)),)), ("pair", 0, 1), None, 0, "x", [], ()]
        return calls + [lambda value=value: is_way_paper(one, other, value) for value in values]

    def no_term(self, one, other, wrong):
        for call in self.calls(one, other):
            with self.assertRaises(NoTerm) as caught:
                call()
            self.assertIsInstance(caught.exception.four, tuple)
            self.assertTrue(stand_in_n(set(wrong.pairs), caught.exception.four))

    def test_no_term(self):
        n, row, none = Order(4, N), order_of(("behind", 0, 1, 2, 3)), Order(4, [])
        self.no_term(n, row, n)
        self.no_term(row, n, n)
        self.no_term(n, none, n)
        self.no_term(none, n, n)
        self.no_term(n, n, n)

    def test_of_the_first_one(self):
        n, turned = Order(4, N), Order(4, [(3 - one, 3 - other) for one, other in N])
        self.no_term(n, turned, n)
        self.no_term(turned, n, turned)
        crown = Order(12, [(one + 6, other + 6) for one, other in CROWN])
        self.no_term(crown, n, crown)
        self.no_term(n, crown, n)

    def test_ahead_of_other_tasks(self):
        n = Order(4, N)
        for other in (Order(1, []), Order(3, [(0, 1)]), Order(5, []), Order(12, []), order_of(("behind", *range(12)))):
            self.no_term(n, other, n)
            self.no_term(other, n, n)

    def test_other_tasks(self):
        pairs = ((Order(1, []), Order(2, [])), (Order(3, [(0, 1)]), Order(4, [(0, 1)])), (Order(11, []), Order(12, [])),
                 (Order(2, [(0, 1)]), Order(3, [(1, 0)])), (Order(3, [(1, 0)]), Order(12, [])))
        for one, other in pairs:
            for first, second in ((one, other), (other, one)):
                for call in self.calls(first, second):
                    self.assertRaises(OtherTasks, call)

    def test_ahead_of_lacks(self):
        self.assertRaises(OtherTasks, lead, Order(3, [(0, 1)]), Order(2, []))
        self.assertRaises(NoTerm, lead, Order(4, N), Order(4, []))
        self.assertRaises(NoTerm, lead, order_of(("behind", 3, 2, 1, 0)), Order(4, N))
        self.assertRaises(Lacks, lead, Order(2, [(0, 1)]), Order(2, []))

    def test_ahead_of_any_value(self):
        for value in other_kinds():
            self.assertRaises(NoTerm, is_way_paper, Order(4, N), Order(3, []), value)
            self.assertRaises(OtherTasks, is_way_paper, Order(4, []), Order(3, []), value)


class Time(unittest.TestCase):
    """Answers about orders of twelve tasks come within a second or so."""

    def quick(self, function, *rest):
        start = perf_counter()
        told = function(*rest)
        self.assertLess(perf_counter() - start, 2)
        return told

    def test_papers(self):
        orders = [Order(12, N), Order(12, CROWN), Order(12, [(one + 8, other + 8) for one, other in N])]
        orders += [Order(12, [(one, other + 6) for one in range(6) for other in range(6) if one != other])]
        orders += [order_of(term) for term in great_terms()]
        for order in orders:
            self.assertIs(self.quick(is_paper, order, self.quick(paper, order)), True)

    def test_ways(self):
        for loose, tight in loose_and_tight(50, 12, 3):
            one, other = Order(12, loose), Order(12, tight)
            told = self.quick(way_paper, one, other)
            self.assertEqual(told[0], "exchanges")
            self.assertIs(self.quick(is_way_paper, one, other, told), True)
            self.assertEqual(behind_all(12, loose, self.quick(lead, one, other)), pairs_of_term(12, paper(other)[1]))


if __name__ == "__main__":
    unittest.main()
