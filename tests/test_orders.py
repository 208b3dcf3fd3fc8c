"""Orders: what they hold, how they compare, what they refuse."""

import operator
import unittest
from itertools import permutations

from behindbeside import orders
from behindbeside.errors import BadNumber, BadPairs, TaskError
from behindbeside.orders import MOST_TASKS, Order
from tests.plainly import first_wrong, followed
from tests.values import LONG, nested, no_numbers, other_kinds


def all_pairs(many):
    return list(permutations(range(many), 2))


def subsets(items):
    found = [()]
    for item in items:
        found += [(*subset, item) for subset in found]
    return found


class Interface(unittest.TestCase):
    def test_names_stand_in_their_file(self):
        self.assertEqual(MOST_TASKS, 12)
        self.assertIs(orders.Order, Order)
        self.assertEqual(Order.__module__, "behindbeside.orders")

    def test_methods_stand_in_the_class_itself(self):
        for name in ("__init__", "__len__", "__eq__", "is_ahead"):
            self.assertIn(name, vars(Order))


class Held(unittest.TestCase):
    """Point [10]: many and pairs."""

    def check(self, many, told):
        for pairs in (list(told), tuple(told)):
            order = Order(many, pairs)
            self.assertEqual(order.many, many)
            self.assertEqual(len(order), many)
            self.assertIs(type(order.pairs), tuple)
            self.assertEqual(order.pairs, tuple(sorted(followed(told))))
            for pair in order.pairs:
                self.assertIs(type(pair), tuple)

    def test_what_follows_is_added(self):
        self.assertEqual(Order(3, [(0, 1), (1, 2)]).pairs, ((0, 1), (0, 2), (1, 2)))
        self.assertEqual(Order(3, [(1, 2), (0, 1)]).pairs, ((0, 1), (0, 2), (1, 2)))
        self.assertEqual(Order(4, ((2, 3), (0, 1), (1, 2))).pairs,
                         ((0, 1), (0, 2), (0, 3), (1, 2), (1, 3), (2, 3)))
        self.assertEqual(Order(4, [(3, 1), (2, 0)]).pairs, ((2, 0), (3, 1)))

    def test_what_follows_may_be_told(self):
        told = Order(3, [(0, 2), (0, 1), (1, 2)])
        self.assertEqual(told.pairs, ((0, 1), (0, 2), (1, 2)))
        self.assertEqual(told, Order(3, [(0, 1), (1, 2)]))

    def test_pairs_told_twice(self):
        self.assertEqual(Order(3, [(0, 1), (0, 1)]).pairs, ((0, 1),))
        self.assertEqual(Order(3, [(0, 1), (1, 2), (0, 1), (0, 2), (0, 2), (1, 2)]).pairs,
                         ((0, 1), (0, 2), (1, 2)))

    def test_no_pairs(self):
        for many in range(1, 13):
            self.check(many, [])

    def test_one_task(self):
        order = Order(1, [])
        self.assertEqual((order.many, len(order), order.pairs), (1, 1, ()))
        self.assertEqual(Order(1, ()).pairs, ())

    def test_every_set_of_pairs_of_up_to_four_tasks(self):
        for many in range(1, 5):
            for told in subsets(all_pairs(many)):
                if first_wrong(many, told) is None:
                    self.check(many, told)
                    self.check(many, told[::-1])

    def test_twelve_tasks_in_a_row(self):
        row = [(k, k + 1) for k in range(11)]
        whole = tuple((a, b) for a in range(12) for b in range(a + 1, 12))
        for told in (row, row[::-1], row[::2] + row[1::2], row[1::2] + row[::2], row + row, list(whole)):
            self.assertEqual(Order(12, told).pairs, whole)
        back = [(b, a) for a, b in row]
        self.assertEqual(Order(12, back).pairs, tuple(sorted((b, a) for a, b in whole)))

    def test_twelve_tasks_of_several_shapes(self):
        shapes = (
            [(a, b) for a in range(6) for b in range(6, 12)],
            [(b, a) for a in range(6) for b in range(6, 12)],
            [(k, (k * 5 + 1) % 12) for k in range(12) if k < (k * 5 + 1) % 12],
            [(11 - k, 11 - 2 * k) for k in range(1, 6)],
            [(k, k + 3) for k in range(9)],
            [(0, 11), (11, 5), (5, 7), (7, 1)],
            [(k // 2, k) for k in range(1, 12)],
        )
        for told in shapes:
            self.check(12, told)
            self.check(12, told[::-1])

    def test_two_long_rows_that_are_joined_last(self):
        told = [(4, 5), (3, 4), (0, 1), (1, 2), (2, 3)]
        self.check(6, told)
        self.assertEqual(len(Order(6, told).pairs), 15)

    def test_by_name_and_in_another_order(self):
        pairs = [(0, 1), (1, 2)]
        made = Order(3, pairs)
        self.assertEqual(Order(many=3, pairs=pairs), made)
        self.assertEqual(Order(pairs=pairs, many=3), made)
        self.assertEqual(Order(3, pairs=pairs), made)

    def test_equal_calls_return_equal_results(self):
        for told in ([], [(0, 1)], [(2, 1), (1, 0)]):
            self.assertEqual(Order(3, told).pairs, Order(3, told).pairs)


class ListsThatArePassed(unittest.TestCase):
    """Point [0]: arguments are not modified, and orders do not change."""

    def test_the_list_is_not_changed(self):
        pairs = [(1, 2), (0, 1), (1, 2)]
        Order(3, pairs)
        self.assertEqual(pairs, [(1, 2), (0, 1), (1, 2)])

    def test_a_refused_list_is_not_changed(self):
        pairs = [(1, 2), (0, 1), (2, 0), "x"]
        with self.assertRaises(BadPairs):
            Order(3, pairs)
        self.assertEqual(pairs, [(1, 2), (0, 1), (2, 0), "x"])

    def test_changing_the_list_afterwards_changes_no_order(self):
        pairs = [(0, 1)]
        order = Order(3, pairs)
        pairs.append((1, 2))
        pairs[0] = (2, 0)
        self.assertEqual(order.pairs, ((0, 1),))
        self.assertIs(order.is_ahead(0, 1), True)
        self.assertIs(order.is_ahead(1, 2), False)
        self.assertIs(order.is_ahead(2, 0), False)
        self.assertEqual(order, Order(3, [(0, 1)]))
        pairs.clear()
        self.assertEqual((order.many, order.pairs), (3, ((0, 1),)))

    def test_asking_changes_nothing(self):
        order = Order(3, [(0, 1), (1, 2)])
        for one in range(3):
            for other in range(3):
                order.is_ahead(one, other)
        with self.assertRaises(BadNumber):
            order.is_ahead(0, 3)
        self.assertEqual((order.many, len(order), order.pairs), (3, 3, ((0, 1), (0, 2), (1, 2))))


class WrongNumbers(unittest.TestCase):
    """Point [2]: BadNumber(many), ahead of all that is wrong with pairs."""

    def refused(self, many, pairs):
        with self.assertRaises(BadNumber) as caught:
            Order(many, pairs)
        self.assertIs(caught.exception.value, many)

    def test_any_value(self):
        for many in no_numbers(1, 12):
            with self.subTest(repr(many)[:40]):
                self.refused(many, [])

    def test_the_edges(self):
        for many in (0, 13, -1, -12, LONG, -LONG, True, False, None, "1", "12", [], (1,)):
            self.refused(many, ())
        for many in (1, 12):
            self.assertEqual(Order(many, ()).many, many)

    def test_ahead_of_what_is_wrong_with_pairs(self):
        for many in (0, 13, True, "3", None):
            for pairs in (None, "", 0, {}, ["x"], [(0, 1), (1, 0)], [(0, 0)]):
                self.refused(many, pairs)

    def test_it_is_a_task_error(self):
        with self.assertRaises(TaskError):
            Order(0, [])


class WrongPairs(unittest.TestCase):
    """Point [2]: BadPairs(None), BadPairs(place)."""

    def refused(self, many, pairs, place):
        with self.assertRaises(BadPairs) as caught:
            Order(many, pairs)
        if place is None:
            self.assertIsNone(caught.exception.place)
        else:
            self.assertEqual(caught.exception.place, place)
            self.assertIs(type(caught.exception.place), int)

    def test_no_list_and_no_tuple(self):
        for pairs in other_kinds() + [0, 1, -1, LONG]:
            with self.subTest(repr(pairs)[:40]):
                self.refused(3, pairs, None)
        self.refused(2, {(0, 1): True}, None)
        self.refused(2, {(0, 1)}, None)
        self.refused(2, iter([(0, 1)]), None)
        self.refused(2, Order(2, []), None)

    def no_pairs(self):
        """Items that are no pair of different tasks, of three."""
        two = [(0, 0), (1, 1), (2, 2), (0, 3), (3, 0), (-1, 0), (0, -1), (-1, -2), (12, 0), (0, LONG), (LONG, 0),
               (-LONG, LONG), (0, True), (True, 0), (False, 1), (2, True), (False, True), (0, None), (None, 0),
               (0, "1"), ("0", "1"), (b"0", 1), ((0,), 1), (0, (1,)), ((0, 1), (1, 2)), ([0], 1), ({}, {}),
               (object(), 0), (0, object())]
        wrong = [(), (0,), (0, 1, 2), (0, 1, 0), (0, 1, None), [], [0], [0, 1], [[0, 1]], ((0, 1),), "01",
                 {0: 1, 1: 2}, Order(2, [(0, 1)]), nested(50, lambda x: (x, 1), 0), nested(50, lambda x: [x, 1], 0)]
        return two + wrong + [0, 1, -1, LONG] + other_kinds()

    def test_items_that_are_no_pairs(self):
        for item in self.no_pairs():
            with self.subTest(repr(item)[:40]):
                self.refused(3, [item], 0)
                self.refused(3, (item,), 0)
                self.refused(3, [(0, 1), item], 1)
                self.refused(3, [(0, 1), (1, 2), (0, 1), item, (2, 0)], 3)

    def test_tasks_at_the_edges(self):
        self.assertEqual(Order(3, [(2, 0)]).pairs, ((2, 0),))
        self.refused(2, [(2, 0)], 0)
        self.refused(3, [(0, 1), (1, 3)], 1)
        self.assertEqual(Order(12, [(11, 0)]).pairs, ((11, 0),))
        self.refused(12, [(12, 0)], 0)
        self.refused(12, [(0, 12)], 0)

    def test_one_task_has_no_pairs(self):
        for item in ((0, 0), (0, 1), (1, 0)):
            self.refused(1, [item], 0)

    def test_items_against_the_ones_before(self):
        self.refused(2, [(0, 1), (1, 0)], 1)
        self.refused(3, [(0, 1), (1, 2), (2, 0)], 2)
        self.refused(3, [(1, 2), (0, 1), (2, 0)], 2)
        self.refused(4, [(2, 3), (0, 1), (1, 2), (3, 0)], 3)
        self.refused(4, [(0, 1), (0, 1), (2, 3), (1, 0), (3, 2)], 3)
        row = [(k, k + 1) for k in range(11)]
        self.refused(12, row + [(11, 0)], 11)
        self.refused(12, row[::-1] + [(11, 0)], 11)
        self.refused(12, row + [(0, 11), (5, 4)], 12)

    def test_the_items_before_alone_count(self):
        self.refused(2, [(1, 0), (0, 1), (0, 1)], 1)
        self.refused(3, [(2, 0), (0, 1), (1, 2)], 2)

    def test_the_first_wrong_item_counts(self):
        self.refused(3, [(0, 1), (1, 0), (0, 0)], 1)
        self.refused(3, [(0, 1), (0, 0), (1, 0)], 1)
        self.refused(3, ["x", (0, 1), (1, 0)], 0)
        self.refused(3, [(0, 1), "x", None], 1)

    def test_every_row_of_pairs_of_three_tasks(self):
        for length in range(1, 5):
            for told in permutations(all_pairs(3), length):
                place = first_wrong(3, told)
                if place is None:
                    self.assertEqual(Order(3, told).pairs, tuple(sorted(followed(told))))
                else:
                    self.refused(3, told, place)
                    self.refused(3, list(told), place)

    def test_every_set_of_pairs_of_four_tasks(self):
        for told in subsets(all_pairs(4)):
            place = first_wrong(4, told)
            if place is not None:
                self.refused(4, told, place)


class Ahead(unittest.TestCase):
    """Points [4] and [10]: is_ahead."""

    def test_all_pairs_of_tasks(self):
        told = ((1, []), (2, [(1, 0)]), (4, [(0, 2), (1, 2), (1, 3)]), (5, [(4, 3), (3, 0), (0, 1)]),
                (12, [(k, k + 2) for k in range(10)]), (12, [(k + 1, k) for k in range(11)]), (12, []))
        for many, pairs in told:
            order = Order(many, pairs)
            ahead = followed(pairs)
            for one in range(many):
                for other in range(many):
                    self.assertIs(order.is_ahead(one, other), (one, other) in ahead)

    def test_never_of_itself(self):
        for many in (1, 3, 12):
            order = Order(many, [(k, k + 1) for k in range(many - 1)])
            for task in range(many):
                self.assertIs(order.is_ahead(task, task), False)

    def test_by_name(self):
        order = Order(3, [(2, 1)])
        self.assertIs(order.is_ahead(one=2, other=1), True)
        self.assertIs(order.is_ahead(other=1, one=2), True)
        self.assertIs(order.is_ahead(other=2, one=1), False)
        self.assertIs(order.is_ahead(2, other=1), True)

    def refused(self, order, one, other, value):
        with self.assertRaises(BadNumber) as caught:
            order.is_ahead(one, other)
        self.assertIs(caught.exception.value, value)

    def test_values_that_are_no_tasks(self):
        for many in (1, 2, 12):
            order = Order(many, [])
            for value in no_numbers(0, many - 1):
                with self.subTest(repr(value)[:40]):
                    self.refused(order, value, 0, value)
                    self.refused(order, 0, value, value)
                    self.refused(order, many - 1, value, value)
                    self.refused(order, value, value, value)

    def test_the_first_one_counts_first(self):
        order = Order(3, [(0, 1)])
        first, second = 10 ** 20, 10 ** 21
        self.refused(order, first, second, first)
        self.refused(order, second, first, second)
        self.refused(order, None, 3, None)
        self.refused(order, 3, None, 3)
        self.refused(order, True, "x", True)
        self.refused(order, -1, 0, -1)
        self.refused(order, 0, -1, -1)


class Compared(unittest.TestCase):
    """Points [4] and [10]: == and !=."""

    def equal(self, one, other):
        self.assertIs(one == other, True)
        self.assertIs(other == one, True)
        self.assertIs(one != other, False)
        self.assertIs(other != one, False)

    def unequal(self, one, other):
        self.assertIs(one == other, False)
        self.assertIs(other == one, False)
        self.assertIs(one != other, True)
        self.assertIs(other != one, True)

    def test_the_same_order(self):
        order = Order(3, [(0, 1), (1, 2)])
        self.equal(order, order)
        self.equal(order, Order(3, [(0, 1), (1, 2)]))
        self.equal(order, Order(3, ((1, 2), (0, 1), (0, 2), (0, 1))))
        self.equal(Order(1, []), Order(1, ()))
        self.equal(Order(12, []), Order(12, ()))

    def test_other_orders(self):
        order = Order(3, [(0, 1)])
        self.unequal(order, Order(3, []))
        self.unequal(order, Order(3, [(1, 0)]))
        self.unequal(order, Order(3, [(0, 2)]))
        self.unequal(order, Order(3, [(0, 1), (0, 2)]))
        self.unequal(order, Order(3, [(0, 1), (1, 2)]))

    def test_as_many_tasks_are_needed(self):
        self.unequal(Order(3, [(0, 1)]), Order(4, [(0, 1)]))
        self.unequal(Order(1, []), Order(2, []))
        self.unequal(Order(11, []), Order(12, []))

    def test_as_many_pairs_are_not_enough(self):
        self.unequal(Order(4, [(0, 1), (2, 3)]), Order(4, [(0, 3), (2, 1)]))

    def test_all_orders_of_three_tasks(self):
        kept = {}
        for told in subsets(all_pairs(3)):
            if first_wrong(3, told) is None:
                kept.setdefault(frozenset(followed(told)), []).append(Order(3, told))
        self.assertEqual(len(kept), 19)
        for pairs, several in kept.items():
            for others, further in kept.items():
                for one in several:
                    for other in further:
                        self.assertIs(one == other, pairs == others)
                        self.assertIs(one != other, pairs != others)

    def test_any_other_value(self):
        order = Order(2, [(0, 1)])
        values = other_kinds() + [0, 1, 2, LONG, [], (), (0, 1), ((0, 1),), [(0, 1)], (2, ((0, 1),)), ("behind", 0, 1)]
        for value in values:
            with self.subTest(repr(value)[:40]):
                self.unequal(order, value)


class Operators(unittest.TestCase):
    """Point [4]: what is not described raises TypeError."""

    def others(self):
        return [Order(2, [(0, 1)]), Order(2, []), Order(3, []), 0, 2, -1, True, None, "", "a", b"a", [], (), (0, 1),
                {}, set(), object()]

    def test_signs_of_order(self):
        order = Order(2, [(0, 1)])
        for sign in (operator.lt, operator.le, operator.gt, operator.ge):
            for other in self.others():
                with self.subTest(sign.__name__, other=repr(other)[:40]):
                    self.assertRaises(TypeError, sign, order, other)
                    self.assertRaises(TypeError, sign, other, order)

    def test_signs_of_reckoning(self):
        order = Order(2, [(0, 1)])
        signs = (operator.add, operator.sub, operator.mul, operator.floordiv, operator.pow, operator.and_,
                 operator.or_, operator.xor, operator.lshift, operator.rshift, operator.iadd, operator.isub,
                 operator.imul, operator.ior, operator.iand, operator.ixor)
        for sign in signs:
            for other in self.others():
                with self.subTest(sign.__name__, other=repr(other)[:40]):
                    self.assertRaises(TypeError, sign, order, other)
        for sign in signs[:10]:
            for other in self.others():
                with self.subTest(sign.__name__, other=repr(other)[:40]):
                    self.assertRaises(TypeError, sign, other, order)
        for other in self.others():
            self.assertRaises(TypeError, operator.mod, order, other)

    def test_signs_of_one_value(self):
        order = Order(2, [(0, 1)])
        for sign in (operator.neg, operator.pos, operator.invert):
            self.assertRaises(TypeError, sign, order)


if __name__ == "__main__":
    unittest.main()
