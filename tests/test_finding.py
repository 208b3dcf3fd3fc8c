"""Finding: the term of an order, or four tasks that stand in an N, and papers on it."""

import unittest
from itertools import permutations, product

from behindbeside import finding
from behindbeside.finding import four_of, is_paper, paper, term_of
from behindbeside.orders import Order
from behindbeside.terms import is_term, normal, order_of
from tests.plainly import all_orders, all_terms, fours, is_normal, orders_of_terms, pairs_of_term, stand_in_n
from tests.samples import CROWN, N, changed_by_one, drawn_terms, great_terms, loose_and_tight
from tests.values import LONG, nested, other_kinds


class Interface(unittest.TestCase):
    def test_names_stand_in_their_file(self):
        for function in (term_of, four_of, paper, is_paper):
            self.assertEqual(function.__module__, "behindbeside.finding")
            self.assertIs(getattr(finding, function.__name__), function)

    def test_by_name(self):
        order = Order(2, [(1, 0)])
        self.assertEqual(term_of(order=order), ("behind", 1, 0))
        self.assertIsNone(four_of(order=order))
        self.assertEqual(paper(order=order), ("term", ("behind", 1, 0)))
        self.assertIs(is_paper(order=order, value=("term", ("behind", 1, 0))), True)
        self.assertIs(is_paper(value=("term", ("behind", 0, 1)), order=order), False)
        self.assertIs(is_paper(order, value=("term", ("behind", 1, 0))), True)


class FindingTests(unittest.TestCase):
    """What each order is asked."""

    def check(self, many, pairs):
        order = Order(many, pairs)
        standing = fours(many, order.pairs)
        if standing:
            self.check_four(order, standing)
        else:
            self.check_term(order)
        self.assertIs(is_paper(order, paper(order)), True)
        self.assertEqual((order.many, order.pairs), (many, tuple(sorted(order.pairs))))

    def check_four(self, order, standing):
        self.assertEqual(four_of(order), standing[0])
        self.assertIsInstance(four_of(order), tuple)
        self.assertIsNone(term_of(order))
        told = paper(order)
        self.assertIsInstance(told, tuple)
        word, four = told
        self.assertEqual(word, "four")
        self.assertIsInstance(four, tuple)
        self.assertIn(four, standing)
        self.assertEqual((term_of(order), four_of(order), paper(order)), (None, standing[0], told))

    def check_term(self, order):
        self.assertIsNone(four_of(order))
        term = term_of(order)
        self.assertIs(is_term(term), True)
        self.assertTrue(is_normal(term))
        self.assertEqual(pairs_of_term(order.many, term), order.pairs)
        told = paper(order)
        self.assertIsInstance(told, tuple)
        word, another = told
        self.assertEqual(word, "term")
        self.assertIs(is_term(another), True)
        self.assertEqual(pairs_of_term(order.many, another), order.pairs)
        self.assertEqual((term_of(order), four_of(order), paper(order)), (term, None, told))


class Found(FindingTests):
    """Points [0], [12], [13] and [20]: term_of, four_of and paper."""

    def test_all_orders_of_up_to_five_tasks(self):
        for many, count in ((1, 1), (2, 3), (3, 19), (4, 219), (5, 4231)):
            orders = all_orders(many)
            self.assertEqual(len(orders), count)
            for pairs in orders:
                self.check(many, pairs)

    def test_an_n_by_hand(self):
        order = Order(4, N)
        self.assertEqual(four_of(order), (0, 1, 2, 3))
        self.assertIsNone(term_of(order))
        self.assertEqual(paper(order), ("four", (0, 1, 2, 3)))
        for places in permutations(range(4)):
            turned = Order(4, [(places[one], places[other]) for one, other in N])
            self.assertEqual(four_of(turned), places)
            self.assertEqual(paper(turned), ("four", places))

    def test_one_n_among_twelve_tasks(self):
        for places in permutations((3, 11, 0, 7)):
            pairs = [(places[one], places[other]) for one, other in N]
            self.assertEqual(four_of(Order(12, pairs)), places)
            self.assertIsNone(term_of(Order(12, pairs)))

    def test_four_tasks_with_one_pair_more_than_an_n(self):
        self.assertEqual(term_of(Order(4, [*N, (0, 3)])), ("behind", ("beside", 0, 1), ("beside", 2, 3)))
        self.assertEqual(term_of(Order(4, [*N, (0, 1)])), ("behind", 0, 1, ("beside", 2, 3)))
        self.assertEqual(term_of(Order(4, [*N, (1, 0)])), ("behind", 1, ("beside", ("behind", 0, 2), 3)))
        self.assertEqual(term_of(Order(4, [*N, (3, 0)])), ("behind", 1, 3, 0, 2))
        self.assertEqual(term_of(Order(4, [*N, (3, 2)])), ("behind", ("beside", 0, ("behind", 1, 3)), 2))
        self.assertEqual(term_of(Order(4, [*N, (2, 3)])), ("behind", ("beside", 0, 1), 2, 3))

    def test_a_crown_of_six_tasks(self):
        order = Order(6, CROWN)
        self.assertEqual(four_of(order), fours(6, CROWN)[0])
        self.assertEqual(four_of(order), (0, 1, 3, 5))
        self.assertIsNone(term_of(order))
        self.check(6, CROWN)

    def test_rows(self):
        for many in range(2, 13):
            order = Order(many, [(task + 1, task) for task in range(many - 1)])
            self.assertEqual(term_of(order), ("behind", *range(many - 1, -1, -1)))
            self.assertIsNone(four_of(order))
            order = Order(many, [(task, task + 1) for task in range(many - 1)])
            self.assertEqual(term_of(order), ("behind", *range(many)))

    def test_tasks_side_by_side(self):
        self.assertEqual(term_of(Order(1, [])), 0)
        self.assertEqual(paper(Order(1, [])), ("term", 0))
        self.assertIsNone(four_of(Order(1, [])))
        for many in range(2, 13):
            self.assertEqual(term_of(Order(many, [])), ("beside", *range(many)))
            self.assertIsNone(four_of(Order(many, [])))

    def test_two_by_two(self):
        order = Order(12, [(task, task + 6) for task in range(6)])
        self.assertEqual(term_of(order), ("beside", *[("behind", task, task + 6) for task in range(6)]))
        rows = [(one, other) for one in range(0, 12, 2) for other in range(one)]
        order = Order(12, [*rows, *[(one + 1, other) for one, other in rows]])
        self.assertEqual(term_of(order), ("behind", *[("beside", task, task + 1) for task in range(10, -2, -2)]))

    def test_parts_ascend_or_come_one_behind_another(self):
        self.assertEqual(term_of(Order(5, [(3, 1), (4, 0)])), ("beside", ("behind", 4, 0), ("behind", 3, 1), 2))
        pairs = [(one, other) for one in (1, 4) for other in (0, 2, 3)] + [(3, 0), (3, 2)]
        self.assertEqual(term_of(Order(5, pairs)), ("behind", ("beside", 1, 4), 3, ("beside", 0, 2)))

    def test_the_normal_term_of_each_term(self):
        for many in range(1, 5):
            for term in all_terms(many):
                self.assertEqual(term_of(order_of(term)), normal(term))

    def test_orders_of_terms_of_up_to_twelve_tasks(self):
        for many in range(5, 13):
            for term in drawn_terms(many, many, 12):
                self.check(many, pairs_of_term(many, term))
                self.assertEqual(term_of(order_of(term)), normal(term))
        for term in great_terms():
            self.check(12, pairs_of_term(12, term))
            self.assertEqual(term_of(order_of(term)), normal(term))

    def test_one_pair_more_or_less(self):
        found = {True: 0, False: 0}
        for many, count in ((5, 20), (6, 12), (8, 4), (12, 1)):
            for term in drawn_terms(100 + many, many, count):
                for pairs in changed_by_one(many, pairs_of_term(many, term)):
                    self.check(many, pairs)
                    found[bool(fours(many, pairs))] += 1
        self.assertGreater(min(found.values()), 50)

    def test_deep_orders(self):
        for pairs, tighter in loose_and_tight(5, 12, 3):
            self.check(12, pairs)
            self.check(12, tighter)


class Papers(unittest.TestCase):
    """Point [13]: is_paper of any value."""

    def refused(self, order, value):
        with self.subTest(repr(value)[:60]):
            self.assertIs(is_paper(order, value), False)

    def test_every_term_on_every_order(self):
        for many in range(1, 4):
            terms = [term for few in range(1, 4) for term in all_terms(few)]
            for pairs in all_orders(many):
                order = Order(many, pairs)
                for term in terms:
                    expected = order_of(term).many == many and order_of(term).pairs == pairs
                    self.assertIs(is_paper(order, ("term", term)), expected)

    def test_terms_of_four_tasks(self):
        terms = all_terms(4)
        for pairs in (*orders_of_terms(4)[::8], N):
            order = Order(4, pairs)
            for term in terms[::3]:
                self.assertIs(is_paper(order, ("term", term)), pairs_of_term(4, term) == pairs)

    def test_terms_that_are_not_normal(self):
        order = Order(4, [(0, 1), (1, 2)])
        for term in (("beside", ("behind", 0, 1, 2), 3), ("beside", 3, ("behind", 0, 1, 2)),
                     ("beside", ("behind", ("behind", 0, 1), 2), 3), ("beside", 3, ("behind", 0, ("behind", 1, 2)))):
            self.assertIs(is_paper(order, ("term", term)), True)
        for term in (("beside", ("behind", 0, 2, 1), 3), ("beside", ("behind", 0, 1), 2, 3), ("behind", 0, 1, 2, 3),
                     ("behind", 0, 1, 2), ("beside", ("behind", 0, 1, 2), 3, 4), 0, 3):
            self.refused(order, ("term", term))

    def test_great_terms(self):
        orders = [(term, order_of(term)) for term in great_terms()]
        for term, order in orders:
            for another, other in orders:
                self.assertIs(is_paper(order, ("term", another)), order.pairs == other.pairs)

    def test_every_four_numbers(self):
        for many, pairs in ((4, N), (5, [(0, 2), (1, 2), (1, 3), (4, 3)]), (5, [(3, 0), (4, 0), (4, 1), (4, 2)]),
                            (4, [(0, 1), (2, 3)]), (4, []), (3, [(0, 1)])):
            order = Order(many, pairs)
            for four in product(range(-1, many + 1), repeat=4):
                self.assertIs(is_paper(order, ("four", four)), stand_in_n(set(order.pairs), four))

    def test_every_four_of_six_tasks(self):
        order = Order(6, CROWN)
        for four in product(range(6), repeat=4):
            self.assertIs(is_paper(order, ("four", four)), stand_in_n(set(CROWN), four))

    def test_every_n_of_twelve_tasks(self):
        order = Order(12, [(task, task + 6) for task in range(6)] + [(task + 1, task + 6) for task in range(5)])
        standing = fours(12, order.pairs)
        self.assertGreater(len(standing), 5)
        for four in standing:
            self.assertIs(is_paper(order, ("four", four)), True)
            for wrong in permutations(four):
                self.assertIs(is_paper(order, ("four", wrong)), wrong in standing)

    def test_true_is_no_task(self):
        order = Order(4, N)
        self.assertIs(is_paper(order, ("four", (0, 1, 2, 3))), True)
        for four in ((0, True, 2, 3), (False, 1, 2, 3), (False, True, 2, 3)):
            self.refused(order, ("four", four))
        self.refused(Order(2, [(0, 1)]), ("term", ("behind", 0, True)))
        self.refused(Order(2, [(0, 1)]), ("term", ("behind", False, 1)))
        self.refused(Order(1, []), ("term", False))

    def test_values_that_are_no_four(self):
        order = Order(4, N)
        for four in ([0, 1, 2, 3], (), (0,), (0, 1), (0, 1, 2), (0, 1, 2, 3, 0), (0, 1, 2, 3, 3), (0, 1, 2, 4),
                     (0, 1, 2, LONG), (-4, 1, 2, 3), (0, -3, 2, 3), (0, 1, 2, None), (0, 1, 2, "3"), ("0", 1, 2, 3),
                     (0, 1, (2,), 3), (0, 1, [2], 3), (0, 1, {2}, {}), ((0, 1), (2, 3)), ((0, 1, 2, 3),), 0, 3, LONG,
                     {0: 1, 1: 2, 2: 3, 3: 0}, {0, 1, 2, 3}, range(4), "0123", b"\x00\x01\x02\x03", None, order):
            self.refused(order, ("four", four))
        for kind in other_kinds():
            self.refused(order, ("four", kind))
            self.refused(order, ("four", (0, 1, 2, kind)))
            self.refused(order, ("four", (kind, 1, 2, 3)))

    def test_values_that_are_no_term(self):
        order = Order(2, [(0, 1)])
        self.assertIs(is_paper(order, ("term", ("behind", 0, 1))), True)
        for term in (["behind", 0, 1], ("behind",), ("behind", 0), (0, 1), ("behind", 0, 1, 1), ("behind", 0, 2),
                     ("Behind", 0, 1), "(0 > 1)", ((0, 1),), 1, -1, LONG, (), [], order,
                     nested(50, lambda x: ("behind", x), 0), nested(49, lambda x: ("behind", 0, x), 1)):
            self.refused(order, ("term", term))
        for kind in other_kinds():
            self.refused(order, ("term", kind))

    def test_other_words_and_shapes(self):
        for order, word, told in ((Order(2, [(0, 1)]), "term", ("behind", 0, 1)), (Order(4, N), "four", (0, 1, 2, 3))):
            self.assertIs(is_paper(order, (word, told)), True)
            other = {"term": "four", "four": "term"}[word]
            for wrong in (other, word.upper(), word.title(), word + " ", " " + word, word + "s", word[:3], "", "paper",
                          "behind", word.encode(), (word,), [word], 0, LONG, *other_kinds()):
                self.refused(order, (wrong, told))
            for value in ((word,), (told,), (told, word), (word, told, told), (word, told, None), (word, *told),
                          [word, told], (word, [told]), (word, (told,)), (word, list(told)), ((word, told),),
                          [(word, told)], ((word, told), (word, told)), {word: told}, {word, told}, (), [], told, word,
                          (word, ()), (word, None), order, (word, order), 0, 1, LONG, -LONG):
                self.refused(order, value)

    def test_other_kinds(self):
        for order in (Order(1, []), Order(2, [(0, 1)]), Order(4, N), Order(12, N)):
            for value in other_kinds() + [0, 1, LONG, -LONG, [], ()]:
                self.refused(order, value)

    def test_values_nested_deep(self):
        for order in (Order(1, []), Order(2, [(0, 1)]), Order(4, N)):
            for value in (nested(50, lambda x: ("term", x), 0), nested(50, lambda x: ("four", x), (0, 1, 2, 3)),
                          nested(50, lambda x: (x,), 0), nested(50, lambda x: [x], 0),
                          ("term", nested(50, lambda x: (x, x), 0)), ("four", nested(50, lambda x: (x, 1, 2, 3), 0)),
                          ("term", nested(50, lambda x: ("beside", x), 0)), (nested(50, lambda x: (x,), "term"), 0)):
                with self.subTest(many=order.many):
                    self.assertIs(is_paper(order, value), False)

    def test_a_paper_of_the_other_sort_never_fits(self):
        for pairs in orders_of_terms(4):
            order = Order(4, pairs)
            for four in permutations(range(4)):
                self.assertIs(is_paper(order, ("four", four)), False)

    def test_a_list_that_is_passed_is_not_changed(self):
        value = ["four", [0, 1, 2, 3]]
        is_paper(Order(4, N), value)
        self.assertEqual(value, ["four", [0, 1, 2, 3]])


if __name__ == "__main__":
    unittest.main()
