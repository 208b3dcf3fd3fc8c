"""Runs: all of them, how many there are, and their numbers."""

import unittest
from inspect import isgenerator
from itertools import combinations, islice, permutations, product
from math import comb, factorial
from time import perf_counter

from behindbeside import runs as runs_file
from behindbeside.errors import BadNumber, BadRun, TaskError
from behindbeside.orders import Order
from behindbeside.runs import count_runs, is_run, run_at, run_number, runs
from behindbeside.terms import order_of
from tests.plainly import all_orders, all_runs, all_terms, pairs_of_term, ways_to_run
from tests.samples import CROWN, N, Draw, drawn_orders, drawn_terms, great_orders, great_terms
from tests.values import LONG, nested, no_numbers, other_kinds


def some_orders():
    """Orders of which all runs are looked at: all of few tasks, and some of up to six."""
    found = [(many, pairs) for many in range(1, 5) for pairs in all_orders(many)]
    found += [(5, pairs) for pairs in all_orders(5)[::45]]
    found += [(6, pairs) for pairs in (*drawn_orders(11, 6, 15), N, CROWN)]
    return found


def ways_of_term(term):
    """Return how many tasks and how many runs a term has, as point [50] says."""
    if isinstance(term, int):
        return 1, 1
    many, ways = 0, 1
    for part in term[1:]:
        more, its = ways_of_term(part)
        many, ways = many + more, ways * its
        if term[0] == "beside":
            ways *= comb(many, more)
    return many, ways


def no_runs(many):
    """Values that are no tuple of so many items."""
    run = tuple(range(many))
    return [
        list(run), [run], (run,) * (many + 1), (), [], run[:-1], run[1:], (*run, many), (*run, 0), (*run, None),
        (*run, *run), (*run, run), {task: task for task in run}, set(run), range(many), iter(run), "0" * many,
        bytes(run), bytearray(run), 0, 1, -1, many, LONG, -LONG, Order(many, []), (None,) * (many + 1),
        nested(50, lambda x: [x], 0), nested(49, lambda x: (*run, x), 0),
    ] + other_kinds()


def no_tasks(many):
    """Values that are no task of an order of so many."""
    return [
        many, many + 1, 12, -1, -many, 100, LONG, -LONG, (), [], (0,), [0], (0, 1), Order(many, []),
        nested(48, lambda x: (x,), 0), nested(48, lambda x: [x], 0),
    ] + other_kinds()


class Interface(unittest.TestCase):
    def test_names_stand_in_their_file(self):
        for function in (is_run, count_runs, runs, run_at, run_number):
            self.assertEqual(function.__module__, "behindbeside.runs")
            self.assertIs(getattr(runs_file, function.__name__), function)

    def test_by_name_and_in_another_order(self):
        order, run = Order(3, [(2, 0)]), (2, 0, 1)
        self.assertIs(is_run(order=order, value=run), True)
        self.assertIs(is_run(value=(0, 1, 2), order=order), False)
        self.assertIs(is_run(order, value=run), True)
        self.assertEqual(count_runs(order=order), 3)
        self.assertEqual(list(runs(order=order)), [(1, 2, 0), (2, 0, 1), (2, 1, 0)])
        self.assertEqual(run_at(order=order, number=1), run)
        self.assertEqual(run_at(number=1, order=order), run)
        self.assertEqual(run_at(order, number=1), run)
        self.assertEqual(run_number(order=order, run=run), 1)
        self.assertEqual(run_number(run=run, order=order), 1)
        self.assertEqual(run_number(order, run=run), 1)


class Runs(unittest.TestCase):
    """Points [0] and [40]: runs."""

    def test_all_runs(self):
        for many, pairs in some_orders():
            order = Order(many, pairs)
            found = list(runs(order))
            self.assertEqual(found, all_runs(many, pairs))
            self.assertEqual(list(runs(order)), found)
            self.assertEqual(order, Order(many, pairs))

    def test_they_are_tuples_of_tasks(self):
        for run in runs(Order(4, [(1, 3)])):
            self.assertIs(type(run), tuple)
            self.assertEqual([type(task) for task in run], [int] * 4)

    def test_written_out(self):
        self.assertEqual(list(runs(Order(1, []))), [(0,)])
        self.assertEqual(list(runs(Order(2, []))), [(0, 1), (1, 0)])
        self.assertEqual(list(runs(Order(2, [(1, 0)]))), [(1, 0)])
        self.assertEqual(list(runs(Order(3, [(1, 0)]))), [(1, 0, 2), (1, 2, 0), (2, 1, 0)])
        self.assertEqual(list(runs(Order(4, N))),
                         [(0, 1, 2, 3), (0, 1, 3, 2), (1, 0, 2, 3), (1, 0, 3, 2), (1, 3, 0, 2)])

    def test_free_tasks(self):
        for many in range(1, 8):
            self.assertEqual(list(runs(Order(many, []))), list(permutations(range(many))))

    def test_a_generator(self):
        made = runs(Order(2, []))
        self.assertTrue(isgenerator(made))
        self.assertEqual(next(made), (0, 1))
        self.assertEqual(next(made), (1, 0))
        self.assertRaises(StopIteration, next, made)
        self.assertRaises(StopIteration, next, made)

    def test_one_item_at_a_time_of_twelve_tasks(self):
        start = perf_counter()
        self.assertEqual(list(islice(runs(Order(12, [])), 5000)), list(islice(permutations(range(12)), 5000)))
        made = runs(Order(12, [(11, 0)]))
        self.assertEqual(next(made), (*range(1, 10), 10, 11, 0))
        self.assertEqual(next(made), (*range(1, 10), 11, 0, 10))
        self.assertEqual(list(runs(order_of(("behind", *range(11, -1, -1))))), [tuple(range(11, -1, -1))])
        self.assertLess(perf_counter() - start, 5)

    def test_two_at_once(self):
        order = Order(3, [(0, 2)])
        one, other = runs(order), runs(order)
        self.assertEqual([next(one), next(one), next(other), next(one), next(other)],
                         [(0, 1, 2), (0, 2, 1), (0, 1, 2), (1, 0, 2), (0, 2, 1)])

    def test_what_is_passed_is_looked_at_when_the_first_item_is_asked_for(self):
        made = runs(None)
        with self.assertRaises(Exception):
            next(made)


class CountRuns(unittest.TestCase):
    """Points [40] and [50]: count_runs."""

    def check(self, many, pairs, expected):
        order = Order(many, pairs)
        self.assertEqual(count_runs(order), expected)
        self.assertIs(type(count_runs(order)), int)
        self.assertEqual(order, Order(many, pairs))

    def test_as_many_as_there_are(self):
        for many, pairs in some_orders():
            self.check(many, pairs, len(all_runs(many, pairs)))

    def test_free_tasks(self):
        for many in range(1, 13):
            self.check(many, [], factorial(many))
        self.check(12, [], 479001600)

    def test_rows(self):
        for many in range(1, 13):
            self.check(many, [(task, task + 1) for task in range(many - 1)], 1)
            self.check(many, [(task + 1, task) for task in range(many - 1)], 1)

    def test_two_by_two(self):
        self.check(12, [(task, task + 6) for task in range(6)], factorial(12) // 64)
        self.check(12, [(a, b) for a in range(12) for b in range(12) if a // 2 < b // 2], 64)

    def test_orders_of_twelve_tasks(self):
        start = perf_counter()
        for pairs in great_orders():
            self.check(12, pairs, ways_to_run(12, pairs))
        self.assertLess(perf_counter() - start, 30)

    def test_orders_of_terms(self):
        terms = [term for many in range(1, 4) for term in all_terms(many)] + great_terms()
        for many in range(4, 13):
            terms += drawn_terms(many, many, 10)
        for term in terms:
            many, ways = ways_of_term(term)
            self.check(many, pairs_of_term(many, term), ways)


class Numbers(unittest.TestCase):
    """Point [40]: run_at and run_number."""

    def refused(self, order, number):
        with self.subTest(many=order.many, value=repr(number)[:60]):
            with self.assertRaises(BadNumber) as caught:
                run_at(order, number)
            self.assertIs(caught.exception.value, number)

    def test_all_numbers(self):
        for many, pairs in some_orders():
            order = Order(many, pairs)
            expected = all_runs(many, pairs)
            step = 1 if many < 6 else 7
            for number in range(0, len(expected), step):
                self.assertEqual(run_at(order, number), expected[number])
                self.assertEqual(run_number(order, expected[number]), number)
            self.refused(order, -1)
            self.refused(order, len(expected))
            self.assertEqual(order, Order(many, pairs))

    def test_kinds(self):
        run = run_at(Order(3, [(0, 1)]), 2)
        self.assertEqual(run, (2, 0, 1))
        self.assertIs(type(run), tuple)
        self.assertEqual([type(task) for task in run], [int] * 3)
        self.assertIs(type(run_number(Order(3, [(0, 1)]), run)), int)

    def test_numbers_of_twelve_tasks(self):
        draw = Draw(5)
        for pairs in great_orders():
            order = Order(12, pairs)
            many = ways_to_run(12, pairs)
            for number in (0, 1, many // 3, many // 2, draw.below(many), many - 2, many - 1):
                if 0 <= number < many:
                    run = run_at(order, number)
                    self.assertEqual(sorted(run), list(range(12)))
                    self.assertTrue(all(run.index(a) < run.index(b) for a, b in pairs))
                    self.assertEqual(run_number(order, run), number)
                if 0 <= number < many - 1:
                    behind = run_at(order, number + 1)
                    self.assertGreater(behind, run)
                    self.assertEqual(run_number(order, behind), number + 1)
            self.assertEqual(run_at(order, 0), next(runs(order)))
            self.refused(order, many)
            self.refused(order, many + 1)

    def test_the_run_behind_has_the_next_number(self):
        for pairs in ((), N, CROWN, ((11, 0), (10, 0), (3, 7))):
            order = Order(12, pairs)
            for number, run in enumerate(islice(runs(order), 30)):
                self.assertEqual(run_number(order, run), number)
                self.assertEqual(run_at(order, number), run)

    def test_free_tasks(self):
        order = Order(12, [])
        self.assertEqual(run_at(order, 0), tuple(range(12)))
        self.assertEqual(run_at(order, 479001599), tuple(range(11, -1, -1)))
        self.assertEqual(run_at(order, factorial(11)), (1, 0, *range(2, 12)))
        self.assertEqual(run_number(order, (1, 0, *range(2, 12))), factorial(11))
        self.assertEqual(run_number(order, tuple(range(11, -1, -1))), 479001599)

    def test_any_value_that_is_no_number(self):
        for many, pairs in ((1, ()), (2, ((1, 0),)), (2, ()), (3, ((0, 1),)), (4, N), (12, ())):
            order = Order(many, pairs)
            for value in no_numbers(0, ways_to_run(many, pairs) - 1):
                # Of the greatest order the numbers beside its own ones are others.
                if isinstance(value, int) and not isinstance(value, bool) and 0 <= value < count_runs(order):
                    continue
                self.refused(order, value)

    def test_it_is_a_task_error(self):
        self.assertRaises(TaskError, run_at, Order(2, []), 2)
        self.assertRaises(TaskError, run_number, Order(2, []), None)


def first_wrong(many, pairs, items):
    """Return the number of the first item that cannot stand there, or None."""
    for place, item in enumerate(items):
        if type(item) is not int or not 0 <= item < many or item in items[:place]:
            return place
        if any(b == item and a not in items[:place] for a, b in pairs):
            return place
    return None


class OtherValues(unittest.TestCase):
    """Points [2] and [40]: is_run of any value, run_number of any value that is no run."""

    def check(self, order, value):
        """Ask about a tuple of as many items as there are tasks; return whether it is a run."""
        place = first_wrong(order.many, order.pairs, value)
        with self.subTest(pairs=order.pairs, value=repr(value)[:60]):
            self.assertIs(is_run(order, value), place is None)
            if place is None:
                self.assertEqual(run_at(order, run_number(order, value)), value)
            else:
                self.refused(order, value, place)
        return place is None

    def refused(self, order, value, place):
        with self.assertRaises(BadRun) as caught:
            run_number(order, value)
        if place is None:
            self.assertIsNone(caught.exception.place)
        else:
            self.assertEqual(caught.exception.place, place)
            self.assertIs(type(caught.exception.place), int)

    def test_all_tuples_of_numbers(self):
        for many in range(1, 4):
            for pairs in all_orders(many):
                order = Order(many, pairs)
                found = [value for value in product(range(-1, many + 1), repeat=many) if self.check(order, value)]
                self.assertEqual(found, all_runs(many, pairs))

    def test_all_tuples_of_tasks(self):
        for pairs in [*all_orders(4)[::9], N]:
            order = Order(4, pairs)
            found = [value for value in product(range(4), repeat=4) if self.check(order, value)]
            self.assertEqual(found, all_runs(4, pairs))

    def test_two_tasks_exchanged(self):
        wrong = 0
        for pairs in great_orders():
            order = Order(12, pairs)
            run = run_at(order, count_runs(order) // 2)
            self.assertTrue(self.check(order, run))
            for one, other in combinations(range(12), 2):
                value = list(run)
                value[one], value[other] = value[other], value[one]
                wrong += not self.check(order, tuple(value))
        self.assertGreater(wrong, 500)

    def test_a_task_twice_or_left_out(self):
        for many, pairs in ((2, ()), (4, N), (6, CROWN), (12, great_orders()[3])):
            order = Order(many, pairs)
            run = run_at(order, 0)
            for place in range(many):
                self.assertIs(is_run(order, run[:place] + run[place + 1:]), False)
                self.refused(order, run[:place] + run[place + 1:], None)
                self.assertIs(is_run(order, run[:place] + run[place:place + 1] + run[place:]), False)
                self.refused(order, run[:place] + run[place:place + 1] + run[place:], None)
                for other in range(many):
                    self.check(order, run[:place] + run[other:other + 1] + run[place + 1:])

    def test_items_that_are_no_task(self):
        for many, pairs in ((1, ()), (2, ((1, 0),)), (4, N)):
            order = Order(many, pairs)
            run = run_at(order, 0)
            for item in no_tasks(many):
                for place in range(many):
                    self.assertFalse(self.check(order, run[:place] + (item,) + run[place + 1:]))

    def test_true_is_no_task(self):
        order = Order(3, [])
        for value, place in (((0, True, 2), 1), ((False, 1, 2), 0), ((2, True, False), 1), ((2, 1, False), 2)):
            self.assertIs(is_run(order, value), False)
            self.refused(order, value, place)

    def test_the_first_wrong_item_counts(self):
        order = Order(4, [(0, 1), (2, 3)])
        for value, place in (((1, 1, 1, 1), 0), ((0, 3, 9, None), 1), ((0, 0, 3, 1), 1), ((0, 1, 1, 3), 2),
                             ((0, 2, 4, 4), 2), ((2, 0, 3, 3), 3), ((2, 3, "0", 1), 2), ((0, 1, 3, 2), 2),
                             ((None, 0, 1, 2), 0), ((0, 2, 3, 4), 3), ((-1, 0, 1, 2), 0), ((0, -1, 2, 3), 1)):
            self.assertIs(is_run(order, value), False)
            self.refused(order, value, place)

    def test_other_kinds_and_lengths(self):
        for order in (Order(1, []), Order(2, [(0, 1)]), Order(3, []), Order(4, N), Order(12, [])):
            for value in no_runs(order.many):
                with self.subTest(many=order.many, value=repr(value)[:60]):
                    self.assertIs(is_run(order, value), False)
                    self.refused(order, value, None)

    def test_values_nested_deep(self):
        for order in (Order(1, []), Order(2, []), Order(4, N)):
            for value in (nested(50, lambda x: [x], 0), nested(50, lambda x: (0, 1, 2, x, 3), 0),
                          {0: nested(49, lambda x: (x,), 0)}):
                self.assertIs(is_run(order, value), False)
                self.refused(order, value, None)
        value = nested(50, lambda x: (x,), 0)
        self.assertIs(is_run(Order(1, []), value), False)
        self.refused(Order(1, []), value, 0)

    def test_nothing_is_changed(self):
        order, value = Order(3, [(0, 1)]), [2, 0, 1]
        self.assertIs(is_run(order, value), False)
        self.refused(order, value, None)
        self.refused(order, ([2], [0], [1]), 0)
        self.assertEqual((order, value), (Order(3, [(0, 1)]), [2, 0, 1]))


class Time(unittest.TestCase):
    """Answers about orders of twelve tasks come within a second or so."""

    def test_twelve_tasks(self):
        for pairs in great_orders():
            order = Order(12, pairs)
            start = perf_counter()
            run = run_at(order, count_runs(order) - 1)
            self.assertIs(is_run(order, run), True)
            run_number(order, run)
            self.assertLess(perf_counter() - start, 2)


if __name__ == "__main__":
    unittest.main()
