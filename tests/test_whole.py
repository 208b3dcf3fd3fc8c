"""The whole document once more: what it promises over all functions and methods."""

import operator
import unittest
from copy import deepcopy
from importlib import import_module
from inspect import signature

from behindbeside.back import is_paper_of, paper_of
from behindbeside.bench import Bench, tried
from behindbeside.counted import count_orders, mended, orders_of
from behindbeside.errors import BadExchange, BadNumber, BadPairs, BadRun, BadTerm, NoTerm, OtherTasks
from behindbeside.exchanges import can, done, exchanges_of, walked
from behindbeside.finding import four_of, is_paper, paper, term_of
from behindbeside.leading import is_way_paper, lead, way_paper
from behindbeside.orders import Order
from behindbeside.puts import put, turned
from behindbeside.rows import longest, rows_over, widest
from behindbeside.runs import count_runs, is_run, run_at, run_number, runs
from behindbeside.terms import is_term, normal, order_of
from behindbeside.texts import read_term, term_text
from tests.samples import N
from tests.values import LONG, Plain, other_kinds

# By module: what the interface lists, with the names of the parameters.
INTERFACE = {
    "errors": {"TaskError": None, "BadPairs": "place", "BadTerm": "value", "BadNumber": "value", "BadExchange": "place",
               "NoTerm": "four", "OtherTasks": None, "Lacks": "pair", "TooGreat": "most", "BadRun": "place",
               "BadRuns": "value", "BadText": "place", "NothingLeft": None},
    "orders": {"Order": "many pairs"},
    "terms": {"is_term": "value", "order_of": "term", "normal": "term"},
    "finding": {"term_of": "order", "four_of": "order", "paper": "order", "is_paper": "order value"},
    "exchanges": {"can": "order exchange", "done": "order exchange", "walked": "order exchanges",
                  "exchanges_of": "order"},
    "leading": {"lead": "one other", "way_paper": "one other", "is_way_paper": "one other value"},
    "runs": {"is_run": "order value", "count_runs": "order", "runs": "order", "run_at": "order number",
             "run_number": "order run"},
    "back": {"paper_of": "many told", "is_paper_of": "many told value"},
    "rows": {"longest": "order", "widest": "order", "rows_over": "order"},
    "puts": {"put": "term terms", "turned": "term"},
    "counted": {"count_orders": "many", "orders_of": "many", "mended": "order"},
    "texts": {"term_text": "term", "read_term": "text"},
    "bench": {"Bench": "order", "tried": "bench function"},
}
METHODS = {
    "Order": {"__len__": "self", "__eq__": "self other", "is_ahead": "self one other"},
    "Bench": {"__len__": "self", "__eq__": "self other", "exchanges": "self", "more": "self", "do": "self exchange",
              "do_all": "self exchanges", "undo": "self", "redo": "self", "trial": "self"},
}
NUMBERS = {("orders", "MOST_TASKS"): 12, ("back", "MOST_RUNS"): 200}


def names_of(function):
    return " ".join(signature(function).parameters)


class Interface(unittest.TestCase):
    def test_all_names_stand_in_their_modules(self):
        for module, names in INTERFACE.items():
            file = import_module("behindbeside." + module)
            for name, parameters in names.items():
                with self.subTest(name):
                    item = getattr(file, name)
                    self.assertEqual(item.__module__, "behindbeside." + module)
                    self.assertEqual(item.__name__, name)
                    if parameters is not None:
                        self.assertEqual(names_of(item), parameters)

    def test_methods_are_defined_in_their_class(self):
        for file, name in (("orders", "Order"), ("bench", "Bench")):
            made = getattr(import_module("behindbeside." + file), name)
            for method, parameters in METHODS[name].items():
                with self.subTest(f"{name}.{method}"):
                    self.assertEqual(names_of(vars(made)[method]), parameters)

    def test_numbers(self):
        for (module, name), worth in NUMBERS.items():
            self.assertEqual(getattr(import_module("behindbeside." + module), name), worth)


def calls():
    """Return functions with arguments to pass to them, of each function of the interface at least one.

    Each time the arguments are new objects.
    """
    two, row, order = Order(4, [(0, 1), (2, 3)]), Order(4, [(0, 2), (2, 1), (1, 3)]), Order(4, N)
    steps = [((0, 2), (1, 3)), ((0,), (2,))]
    term = ("behind", ("beside", 2, 1), ("behind", 0, 3))
    told = ((0, 1, 2), (1, 2, 0))
    return [
        (Order, 3, [(0, 1), (1, 2)]), (Order, 3, ((2, 1),)), (two.is_ahead, 0, 1), (is_term, term), (is_term, [0, 1]),
        (order_of, term), (normal, term), (term_of, two), (four_of, order), (paper, two), (paper, order),
        (is_paper, order, ("four", (0, 1, 2, 3))), (is_paper, two, ["term", [0]]), (can, two, steps[0]),
        (can, two, [[0], [1]]), (done, two, steps[0]), (walked, two, steps), (walked, two, tuple(steps)),
        (exchanges_of, two), (lead, two, row), (way_paper, row, two), (way_paper, two, row),
        (is_way_paper, two, row, ("exchanges", ())), (is_way_paper, row, two, ["pair", 0, 2]),
        (is_run, order, (0, 1, 2, 3)), (is_run, order, [0, 1, 2, 3]), (count_runs, order), (run_at, order, 3),
        (run_number, order, (1, 3, 0, 2)),
        (paper_of, 3, told), (paper_of, 2, ((0, 1),)), (is_paper_of, 3, told, ("run", (1, 0, 2))),
        (is_paper_of, 3, told, ["order", [[0, 1]]]), (longest, order), (widest, order), (rows_over, order),
        (put, ("behind", 1, 0), (term, ("beside", 1, 0))), (turned, term), (count_orders, 7), (orders_of, 3),
        (mended, order), (term_text, term), (read_term, "((2 | 1) > (0 > 3))"), (Bench, two),
        (tried, Bench(two), lambda same: same.do(((0, 2), (1, 3)))),
    ]


class Calls(unittest.TestCase):
    """Points [0], [2] and [3]."""

    def test_equal_calls_return_equal_results(self):
        for (function, *one), (_, *other) in zip(calls(), calls()):
            with self.subTest(function.__name__):
                found = function(*one)
                self.assertEqual(function(*one), found)
                self.assertEqual(function(*other), found)
                self.assertIs(type(function(*other)), type(found))
        self.assertEqual(list(runs(Order(4, N))), list(runs(Order(4, N))))

    def test_no_argument_is_changed(self):
        for function, *arguments in calls():
            if function == tried:
                arguments = arguments[:1]
                before = deepcopy(arguments)
                tried(arguments[0], lambda same: same.do(((0, 2), (1, 3))))
            else:
                before = deepcopy(arguments)
                function(*arguments)
            with self.subTest(function.__name__):
                self.assertEqual(arguments, before)
                self.assertEqual(list(map(type, arguments)), list(map(type, before)))

    def test_no_order_is_changed(self):
        """Of orders all that can be seen is looked at, not only what == tells."""
        for function, *arguments in calls():
            orders = [item for item in arguments if isinstance(item, Order)]
            before = [(order.many, order.pairs, len(order)) for order in orders]
            function(*arguments)
            self.assertEqual([(order.many, order.pairs, len(order)) for order in orders], before)

    def test_arguments_by_name(self):
        for function, *arguments in calls():
            names = names_of(function).split()
            found = function(*arguments)
            with self.subTest(function.__name__):
                self.assertEqual(function(**dict(zip(names, arguments))), found)
                self.assertEqual(function(**dict(list(zip(names, arguments))[::-1])), found)
                if len(names) > 1:
                    self.assertEqual(function(arguments[0], **dict(list(zip(names, arguments))[:0:-1])), found)

    def test_what_is_told_is_told_by_plain_values(self):
        for function, *arguments in calls():
            self.plain(function(*arguments))

    def plain(self, value):
        self.assertIn(type(value), (tuple, int, str, bool, type(None), Order, Bench))
        if isinstance(value, tuple):
            for item in value:
                self.plain(item)

    def test_a_call_that_raises_has_no_other_effect(self):
        order, bench = Order(4, [(0, 1), (2, 3)]), Bench(Order(4, [(0, 1), (2, 3)]))
        bench.do(((0, 2), (1, 3)))
        bench.undo()
        before = deepcopy((order, bench, bench.undone))
        wrong = [[], [None]]
        for error, function, *arguments in (
            (BadNumber, order.is_ahead, 0, 4), (BadExchange, done, order, wrong), (BadExchange, walked, order, wrong),
            (BadNumber, run_at, order, -1), (BadRun, run_number, order, wrong), (BadExchange, bench.do, wrong),
            (BadExchange, bench.do_all, wrong), (BadExchange, bench.do_all, [((0, 2), (1, 3)), None]),
            (BadPairs, Order, 2, wrong), (BadTerm, put, 0, wrong), (BadTerm, normal, wrong),
        ):
            self.assertRaises(error, function, *arguments)
            self.assertEqual((order, bench, bench.undone), before)
            self.assertEqual(wrong, [[], [None]])
        self.assertEqual(bench.redo(), ((0, 2), (1, 3)))

    def test_the_first_argument_is_refused_first(self):
        n = Order(4, N)
        for error, function, *arguments in (
            (BadNumber, Order, 0, None), (NoTerm, done, n, None), (NoTerm, walked, n, None),
            (NoTerm, lead, n, Order(1, [])), (OtherTasks, lead, Order(2, [(0, 1)]), Order(1, [])),
            (BadNumber, paper_of, 0, None), (BadNumber, is_paper_of, True, None, None), (BadTerm, put, None, None),
        ):
            self.assertRaises(error, function, *arguments)


BINARY = (operator.lt, operator.le, operator.gt, operator.ge, operator.add, operator.sub, operator.mul,
          operator.floordiv, operator.truediv, operator.mod, operator.pow, operator.and_, operator.or_, operator.xor,
          operator.lshift, operator.rshift, operator.matmul, operator.iadd, operator.imul, operator.ior)
UNARY = (operator.neg, operator.pos, operator.invert, abs)


class Operators(unittest.TestCase):
    """Point [4]."""

    def objects(self):
        bench = Bench(Order(3, []))
        bench.do(((0,), (1, 2)))
        return [Order(1, []), Order(3, [(0, 1)]), Bench(Order(1, [])), bench, bench.trial(), BadNumber(3)]

    def test_other_operators(self):
        for one in self.objects():
            for other in [*self.objects(), 0, 1, -1, LONG, None, True, (), [], {}, b"", Plain()]:
                for sign in BINARY:
                    with self.subTest(sign.__name__, one=type(one).__name__, other=repr(other)[:40]):
                        self.assertRaises(TypeError, sign, one, other)
                        # A list takes any items with += or *=, and bytes and texts have their own %.
                        if not isinstance(other, (list, bytes)) or sign not in (operator.mod, operator.iadd):
                            self.assertRaises(TypeError, sign, other, one)
            for sign in UNARY:
                self.assertRaises(TypeError, sign, one)

    def test_items_and_members(self):
        for one in self.objects():
            self.assertRaises(TypeError, lambda: one[0])
            self.assertRaises(TypeError, lambda: 0 in one)
            self.assertRaises(TypeError, lambda: one())

    def test_equal(self):
        for at, one in enumerate(self.objects()):
            for place, other in enumerate(self.objects()[:4]):
                self.assertIs(one == other, at == place)
                self.assertIs(one != other, at != place)
            for other in [0, 1, LONG, (), [], (1, ()), *other_kinds()]:
                self.assertIs(one == other, False)
                self.assertIs(other == one, False)
                self.assertIs(one != other, True)
                self.assertIs(other != one, True)


class TheSameOnEveryOrder(unittest.TestCase):
    """What several modules say about one order fits together."""

    def test_all_orders_of_terms_of_up_to_four_tasks(self):
        for many in range(1, 5):
            for order in orders_of(many):
                term = term_of(order)
                self.assertEqual(read_term(term_text(term)), term)
                self.assertEqual(mended(order), order)
                self.assertEqual(turned(turned(term)), term)
                self.assertEqual(put(term, (0,) * many), term)
                self.assertEqual(paper_of(many, tuple(runs(order))), ("order", order.pairs))
                self.assertEqual(count_runs(order), count_runs(order_of(turned(term))))
                self.assertEqual(len(longest(order)), len(longest(order_of(turned(term)))))
                self.assertEqual(len(rows_over(order)), len(widest(order)))
                bench = Bench(Order(many, []))
                self.assertEqual(bench.do_all(lead(Order(many, []), order)), order)
                self.assertEqual(bench.more(), len(order.pairs))


if __name__ == "__main__":
    unittest.main()
