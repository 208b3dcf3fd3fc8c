"""Back: papers on told runs."""

import unittest
from functools import cache
from itertools import combinations, islice, permutations, product
from time import perf_counter

from behindbeside import back
from behindbeside.back import MOST_RUNS, is_paper_of, paper_of
from behindbeside.errors import BadNumber, BadRuns, TaskError, TooGreat
from behindbeside.orders import Order
from behindbeside.runs import runs
from tests.plainly import all_orders, all_runs, followed
from tests.samples import CROWN, N, Draw, drawn_orders
from tests.values import LONG, nested, no_numbers, other_kinds

class EqualToAll:
    """A class whose objects tell of all values that they are equal."""

    def __eq__(self, other):
        return True

    __hash__ = None


FUNCTIONS = (paper_of, lambda many, told: is_paper_of(many, told, None))


@cache
def orders_and_runs(many):
    """Return the pairs of all orders of so many tasks, with the set of their runs."""
    return [(pairs, frozenset(all_runs(many, pairs))) for pairs in all_orders(many)]


def all_papers(many, told):
    """Return all papers on told runs, by the words of point [42]."""
    kept = set(told)
    fitting = [(pairs, found) for pairs, found in orders_and_runs(many) if kept <= found]
    papers = [("order", pairs) for pairs, found in fitting if found == kept]
    common = frozenset.intersection(*[found for _, found in fitting])
    return papers + [("run", run) for run in sorted(common - kept)]


def lots_of(items):
    """Return all lots of some items, at least one."""
    return [lot for size in range(1, len(items) + 1) for lot in combinations(items, size)]


def no_told(many):
    """Values that are no told runs of so many tasks."""
    run = tuple(range(many))
    wrong = [
        (), run[:-1], run[1:], (*run, many), (*run, 0), run[:-1] + (many,), run[:-1] + (-1,), (*run[:-1], LONG),
        (*run[:-1], True), (False, *run[1:]), (*run[:-1], str(many - 1)), (*run[:-1], None), (*run[:-1], (many - 1,)),
        (*run[:-1], [many - 1]), list(run), [list(run)], set(run), {task: 0 for task in run}, range(many), bytes(run),
        (run,), [run], nested(48, lambda x: (x,), run), nested(48, lambda x: [x], run),
        nested(48, lambda x: (*run, x), 0), 0, 1, many, -1, LONG, Order(many, []),
    ] + other_kinds()
    if many > 1:
        wrong += [run[:-1] + (0,), (1, *run[1:]), (0,) * many, (many - 1,) * many]
    if many > 2:
        wrong += [(0, True, *run[2:]), (True, 0, *run[2:])]
    found = [(), [], [run], [list(run)], {run: True}, {run}, iter([run]), run, list(run), ((run,),), ((run, run),)]
    found += [0, 1, -1, LONG, Order(many, []), nested(50, lambda x: (x,), run), nested(50, lambda x: [x], run)]
    for item in wrong:
        found += [(item,), (run, item), (item, run), (run, run, item, run), (run,) * 201 + (item,)]
    return found + other_kinds()


class Interface(unittest.TestCase):
    def test_names_stand_in_their_file(self):
        for function in (paper_of, is_paper_of):
            self.assertEqual(function.__module__, "behindbeside.back")
            self.assertIs(getattr(back, function.__name__), function)
        self.assertEqual(MOST_RUNS, 200)
        self.assertIs(type(MOST_RUNS), int)

    def test_by_name_and_in_another_order(self):
        told = ((0, 1),)
        self.assertEqual(paper_of(many=2, told=told), ("order", ((0, 1),)))
        self.assertEqual(paper_of(told=told, many=2), ("order", ((0, 1),)))
        self.assertEqual(paper_of(2, told=told), ("order", ((0, 1),)))
        self.assertIs(is_paper_of(many=2, told=told, value=("order", ((0, 1),))), True)
        self.assertIs(is_paper_of(value=("order", ((0, 1),)), told=told, many=2), True)
        self.assertIs(is_paper_of(2, value=("order", ((1, 0),)), told=told), False)
        self.assertIs(is_paper_of(2, told, value=("order", ())), False)


class PaperTests(unittest.TestCase):
    """What told runs are asked."""

    def check(self, many, told, papers):
        """Compare with all papers that there are."""
        found = paper_of(many, told)
        self.assertIn(found, papers)
        self.assertEqual(paper_of(many, told), found)
        self.plain(found)
        for value in papers:
            self.assertIs(is_paper_of(many, told, value), True)
        return found

    def plain(self, value):
        """See that a paper is a tuple of a word and tuples of integers."""
        self.assertIs(type(value), tuple)
        self.assertIs(type(value[1]), tuple)
        for item in value[1]:
            self.assertIs(type(item), tuple if value[0] == "order" else int)


class Papers(PaperTests):
    """Points [0], [42] and [51]: paper_of."""

    def test_all_lots_of_runs_of_few_tasks(self):
        for many in range(1, 4):
            words = set()
            for told in lots_of(list(permutations(range(many)))):
                papers = all_papers(many, told)
                # There is a paper, and not one of each sort.
                self.assertEqual(len({word for word, _ in papers}), 1)
                words.add(self.check(many, told, papers)[0])
            self.assertEqual(words, {"order", "run"} if many > 2 else {"order"})

    def test_all_lots_of_few_runs_of_four_tasks(self):
        for size in (1, 2):
            for told in combinations(permutations(range(4)), size):
                self.check(4, told, all_papers(4, told))

    def test_lots_of_runs_of_four_tasks(self):
        draw = Draw(21)
        for at in range(150):
            told = tuple(draw.shuffled(permutations(range(4)))[:1 + at % 24])
            self.check(4, told, all_papers(4, told))

    def test_all_runs_of_orders_of_up_to_five_tasks(self):
        draw = Draw(22)
        for many in range(1, 6):
            for pairs in all_orders(many)[::1 if many < 5 else 30]:
                expected = ("order", pairs)
                found = all_runs(many, pairs)
                self.assertEqual(paper_of(many, tuple(found)), expected)
                told = tuple(draw.shuffled(found))
                self.assertEqual(paper_of(many, told), expected)
                # Some of them are told twice.
                told = tuple(draw.shuffled(found + draw.some(found)))
                self.assertEqual(paper_of(many, told), expected)
                self.assertIs(is_paper_of(many, told, expected), True)
                for run in draw.shuffled(permutations(range(many)))[:20]:
                    self.assertIs(is_paper_of(many, told, ("run", run)), False)

    def test_some_runs_are_left_out(self):
        draw = Draw(23)
        words = []
        for many, step in ((3, 1), (4, 3), (5, 120)):
            for pairs in all_orders(many)[::step]:
                found = draw.shuffled(all_runs(many, pairs))
                for size in {1, len(found) - 1, len(found) // 2} - {0}:
                    told = tuple(found[:size] + draw.some(found[:size]))
                    words.append(self.check(many, told, all_papers(many, told))[0])
        self.assertGreater(words.count("run"), 100)
        self.assertGreater(words.count("order"), 100)

    def test_written_out(self):
        self.assertEqual(paper_of(1, ((0,),)), ("order", ()))
        self.assertEqual(paper_of(1, ((0,), (0,))), ("order", ()))
        self.assertEqual(paper_of(2, ((1, 0),)), ("order", ((1, 0),)))
        self.assertEqual(paper_of(2, ((1, 0), (0, 1))), ("order", ()))
        self.assertEqual(paper_of(3, ((2, 1, 0),)), ("order", ((1, 0), (2, 0), (2, 1))))
        self.assertEqual(paper_of(3, ((0, 1, 2), (0, 2, 1))), ("order", ((0, 1), (0, 2))))
        self.assertEqual(paper_of(3, ((0, 1, 2), (1, 2, 0))), ("run", (1, 0, 2)))

    def test_runs_of_an_order_that_is_no_terms(self):
        self.assertEqual(paper_of(4, tuple(all_runs(4, N))), ("order", N))
        self.assertEqual(paper_of(6, tuple(all_runs(6, CROWN))), ("order", CROWN))

    def test_orders_of_six_to_eight_tasks(self):
        full = 0
        for many in (6, 7, 8):
            for pairs in drawn_orders(many, many, 12):
                found = tuple(islice(runs(Order(many, pairs)), 201))
                if len(found) <= 200:
                    full += 1
                    self.assertEqual(paper_of(many, found), ("order", pairs))
                    self.assertIs(is_paper_of(many, found, ("order", pairs)), True)
                for told in (found[:200:2], found[1:200:3], found[5:200]):
                    if told:
                        self.lacking(many, told)
        self.assertGreater(full, 10)

    def lacking(self, many, told):
        """Look at the paper on some runs by the pairs that all of them have."""
        tasks = range(many)
        pairs = tuple((a, b) for a in tasks for b in tasks if all(run.index(a) < run.index(b) for run in told))
        word, item = found = paper_of(many, told)
        self.plain(found)
        if word == "order":
            self.assertEqual(item, pairs)
            self.assertEqual(list(islice(runs(Order(many, pairs)), 201)), sorted(set(told)))
        else:
            self.assertEqual(word, "run")
            self.assertEqual(sorted(item), list(tasks))
            self.assertTrue(all(item.index(a) < item.index(b) for a, b in pairs))
            self.assertNotIn(item, told)
        self.assertIs(is_paper_of(many, told, found), True)
        self.assertEqual(paper_of(many, told), found)

    def test_two_hundred_runs_of_eight_tasks(self):
        draw = Draw(24)
        start = perf_counter()
        told = tuple(islice(permutations(range(8)), 200))
        self.lacking(8, told)
        self.lacking(8, told[::-1])
        self.lacking(8, tuple(tuple(draw.shuffled(range(8))) for _ in range(200)))
        self.lacking(8, (tuple(range(8)),) * 200)
        self.lacking(8, (tuple(range(8)), tuple(range(7, -1, -1))) * 100)
        # All runs of an order, and all but one.
        pairs = tuple(sorted(followed([*[(task, task + 1) for task in range(3)], (4, 5), (5, 6), (6, 7), (0, 4)])))
        full = tuple(all_runs(8, pairs))
        self.assertGreater(len(full), 30)
        self.assertEqual(paper_of(8, full + full[:200 - len(full)]), ("order", pairs))
        self.assertEqual(paper_of(8, full[:12] + full[13:]), ("run", full[12]))
        self.assertLess(perf_counter() - start, 10)

    def test_the_told_runs_are_not_changed(self):
        told = ((0, 1, 2), (1, 2, 0), (0, 1, 2))
        value = ["run", [0, 1, 2]]
        paper_of(3, told)
        self.assertIs(is_paper_of(3, told, value), False)
        self.assertEqual(told, ((0, 1, 2), (1, 2, 0), (0, 1, 2)))
        self.assertEqual(value, ["run", [0, 1, 2]])


class IsPaper(PaperTests):
    """Points [42] and [51]: is_paper_of of any value."""

    def refused(self, many, told, value):
        with self.subTest(many=many, value=repr(value)[:60]):
            self.assertIs(is_paper_of(many, told, value), False)

    def test_all_papers_on_all_lots_of_three_tasks(self):
        values = [("run", run) for run in product(range(3), repeat=3)]
        values += [("order", pairs) for pairs in all_orders(3)]
        for told in lots_of(list(permutations(range(3)))):
            papers = all_papers(3, told)
            self.assertEqual([value for value in values if is_paper_of(3, told, value)], sorted(papers))

    def test_all_papers_on_lots_of_four_tasks(self):
        draw = Draw(31)
        values = [("order", pairs) for pairs in all_orders(4)] + [("run", run) for run in permutations(range(4))]
        for at in range(12):
            told = tuple(draw.shuffled(permutations(range(4)))[:1 + at])
            papers = all_papers(4, told)
            self.assertEqual([value for value in values if is_paper_of(4, told, value)], papers)

    def test_other_runs_that_will_do(self):
        told = ((0, 1, 2, 3), (3, 2, 1, 0))
        for run in permutations(range(4)):
            self.assertIs(is_paper_of(4, told, ("run", run)), run not in told)
        told = ((0, 1, 2, 3), (0, 3, 2, 1))
        for run in permutations(range(4)):
            self.assertIs(is_paper_of(4, told, ("run", run)), run[0] == 0 and run not in told)

    def test_pairs_left_out_or_put_in(self):
        for many, pairs in ((3, ((0, 1), (0, 2), (1, 2))), (4, N), (5, ((0, 1), (0, 4), (3, 4))), (2, ((1, 0),))):
            told = tuple(all_runs(many, pairs))
            self.assertIs(is_paper_of(many, told, ("order", pairs)), True)
            for place, (a, b) in enumerate(pairs):
                for items in ((), ((a, b), (a, b)), ([a, b],), ((b, a),), ((a, b, a),), (a, b), ((a,),), ((),),
                              (None,)):
                    self.refused(many, told, ("order", pairs[:place] + items + pairs[place + 1:]))
                self.refused(many, told, ("order", pairs + ((a, b),)))
            for pair in product(range(-1, many + 1), repeat=2):
                if pair not in pairs:
                    self.refused(many, told, ("order", tuple(sorted([*pairs, pair]))))
                    self.refused(many, told, ("order", (*pairs, pair)))
            if len(pairs) > 1:
                self.refused(many, told, ("order", pairs[::-1]))
            self.refused(many, told, ("order", list(pairs)))
            self.refused(many, told, ("order", [list(pair) for pair in pairs]))
            self.refused(many, told, ("order", Order(many, pairs)))

    def test_true_is_no_task(self):
        told = tuple(all_runs(3, [(0, 1)]))
        self.assertIs(is_paper_of(3, told, ("order", ((0, 1),))), True)
        for pairs in (((0, True),), ((False, 1),), ((False, True),)):
            self.refused(3, told, ("order", pairs))
        told = ((0, 1, 2), (2, 1, 0))
        self.assertIs(is_paper_of(3, told, ("run", (1, 0, 2))), True)
        for run in ((True, 0, 2), (1, False, 2), (True, False, 2)):
            self.refused(3, told, ("run", run))

    def test_values_that_are_no_run(self):
        told = ((0, 1, 2), (2, 1, 0))
        for run in ([1, 0, 2], (1, 0), (1, 0, 2, 3), (1, 0, 3), (1, 0, 0), (1, 0, -1), (1, 0, LONG), (), (1, 0, (2,)),
                    (1, 0, [2]), (1, 0, None), ((1, 0, 2),), [(1, 0, 2)], ((1, 0), 2), "102", {1: 0, 0: 0, 2: 0}, 0,
                    LONG, nested(49, lambda x: (1, 0, x), 2), (1, 0, "2"), ("1", "0", "2"), {0, 1, 2}, range(3)):
            self.refused(3, told, ("run", run))
        for kind in other_kinds():
            self.refused(3, told, ("run", kind))
            self.refused(3, told, ("run", (1, 0, kind)))
            self.refused(3, told, ("run", (kind, 0, 2)))

    def test_values_that_are_no_pairs(self):
        told = ((0, 1),)
        for kind in [*other_kinds(), 0, 1, LONG, [], [(0, 1)], [[0, 1]], (0, 1), ((0, 1), (0, 1)), ((0, 1), None),
                     (((0, 1),),), ("order", ((0, 1),)), nested(49, lambda x: (x,), (0, 1))]:
            self.refused(2, told, ("order", kind))
        for kind in other_kinds():
            self.refused(2, told, ("order", (kind,)))
            self.refused(2, told, ("order", ((0, kind),)))
            self.refused(2, told, ("order", ((kind, 1),)))
            self.refused(2, told, ("order", ((0, 1), kind)))
        # No pairs are no paper where pairs are wanted; and the other way about.
        for kind in other_kinds():
            self.refused(2, ((0, 1), (1, 0)), ("order", kind))
        self.assertIs(is_paper_of(2, ((0, 1), (1, 0)), ("order", ())), True)
        self.refused(2, ((0, 1), (1, 0)), ("order", []))

    def test_other_words_and_shapes(self):
        for many, told, word, item in ((2, ((0, 1),), "order", ((0, 1),)), (1, ((0,),), "order", ()),
                                       (3, ((0, 1, 2), (2, 1, 0)), "run", (1, 0, 2))):
            self.assertIs(is_paper_of(many, told, (word, item)), True)
            other = {"order": "run", "run": "order"}[word]
            for wrong in (other, word.upper(), word.title(), word + " ", " " + word, word + "s", word[:2], "", "paper",
                          word.encode(), (word,), [word], 0, LONG, *other_kinds()):
                self.refused(many, told, (wrong, item))
            for value in ((word,), (item,), (item, word), (word, item, item), (word, item, None), (word, *item, 0),
                          [word, item], (word, [item]), (word, (item, item)), (word, list(item)), ((word, item),),
                          [(word, item)], ((word, item), (word, item)), {word: item}, {word, item}, (), [], item, word,
                          (word, None), (word, Order(many, [])), 0, 1, LONG, -LONG, told, ("run", told)):
                self.refused(many, told, value)

    def test_other_kinds(self):
        for many, told in ((1, ((0,),)), (3, ((0, 1, 2),)), (3, ((0, 1, 2), (2, 1, 0)))):
            for value in other_kinds() + [0, 1, LONG, -LONG, [], (), Order(many, [])]:
                self.refused(many, told, value)

    def test_values_that_are_equal_to_all(self):
        wrong = EqualToAll()
        for many, told, word, item in ((2, ((0, 1),), "order", ((0, 1),)),
                                       (3, ((0, 1, 2), (2, 1, 0)), "run", (1, 0, 2))):
            for value in (wrong, (wrong, item), (word, wrong), (word, (wrong, *item[1:])), (word, (*item[:-1], wrong))):
                self.assertIs(is_paper_of(many, told, value), False)

    def test_values_nested_deep(self):
        for many, told in ((1, ((0,),)), (3, ((0, 1, 2),)), (3, ((0, 1, 2), (2, 1, 0)))):
            for value in (nested(50, lambda x: ("order", x), ()), nested(50, lambda x: ("run", x), (1, 0, 2)),
                          nested(50, lambda x: (x,), 0), nested(50, lambda x: [x], 0),
                          ("order", nested(49, lambda x: (x,), (0, 1))), ("run", nested(49, lambda x: (x, 1, 2), 0)),
                          (nested(49, lambda x: (x,), "run"), (0, 1, 2))):
                self.refused(many, told, value)


class Refused(unittest.TestCase):
    """BadNumber(many), then BadRuns(told), then TooGreat(200)."""

    def raised(self, error, field, worth, many, told):
        for function in FUNCTIONS:
            with self.subTest(many=repr(many)[:30], told=repr(told)[:60]):
                with self.assertRaises(error) as caught:
                    function(many, told)
                self.assertIs(getattr(caught.exception, field), worth)

    def test_any_value_that_is_no_number(self):
        for many in no_numbers(1, 8):
            for told in (((0,),), (), None, ((0, 1),) * 201, [[0]]):
                self.raised(BadNumber, "value", many, many, told)

    def test_the_least_and_the_greatest_number(self):
        for many in range(1, 9):
            run = tuple(range(many - 1, -1, -1))
            pairs = tuple((a, b) for a in range(many) for b in range(a))
            self.assertEqual(paper_of(many, (run,)), ("order", pairs))
            self.assertIs(is_paper_of(many, (run,), ("order", pairs)), True)

    def test_any_value_that_is_no_told_runs(self):
        for many in (1, 2, 3, 8):
            for told in no_told(many):
                self.raised(BadRuns, "value", told, many, told)

    def test_runs_of_other_orders_are_no_told_runs(self):
        for many in range(1, 9):
            for other in range(0, 10):
                if other != many:
                    told = (tuple(range(other)),)
                    self.raised(BadRuns, "value", told, many, told)

    def test_more_than_two_hundred_items(self):
        for told in (((0, 1),) * 201, ((0, 1), (1, 0)) * 101, ((0, 1),) * 1000):
            self.too_great(2, told)
        self.too_great(8, tuple(islice(permutations(range(8)), 201)))
        self.too_great(6, tuple(permutations(range(6))))
        self.assertEqual(paper_of(2, ((0, 1),) * 200), ("order", ((0, 1),)))
        self.assertEqual(paper_of(2, ((0, 1), (1, 0)) * 100), ("order", ()))
        self.assertIs(is_paper_of(2, ((0, 1), (1, 0)) * 100, ("order", ())), True)

    def too_great(self, many, told):
        for function in FUNCTIONS:
            with self.assertRaises(TooGreat) as caught:
                function(many, told)
            self.assertEqual(caught.exception.most, 200)

    def test_they_stand_in_this_order(self):
        told = ((0, 1),) * 201
        self.raised(BadNumber, "value", 0, 0, told)
        self.raised(BadRuns, "value", told, 3, told)
        self.too_great(2, told)

    def test_whatever_the_value_is(self):
        for value in [*other_kinds(), ("order", ()), ("run", (0, 1)), 0]:
            self.assertRaises(BadNumber, is_paper_of, 9, ((0, 1),), value)
            self.assertRaises(BadRuns, is_paper_of, 2, [(0, 1)], value)
            self.assertRaises(TooGreat, is_paper_of, 2, ((0, 1),) * 201, value)

    def test_they_are_task_errors(self):
        self.assertRaises(TaskError, paper_of, 0, ())
        self.assertRaises(TaskError, paper_of, 1, ())

    def test_what_is_refused_is_not_changed(self):
        told = [[0, 1], [1, 0]]
        self.raised(BadRuns, "value", told, 2, told)
        self.assertEqual(told, [[0, 1], [1, 0]])


if __name__ == "__main__":
    unittest.main()
