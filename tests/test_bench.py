"""Benches: exchanges made, taken back and made again, and trials."""

import unittest
from copy import deepcopy

from behindbeside import bench as bench_file
from behindbeside.bench import Bench, tried
from behindbeside.errors import BadExchange, NoTerm, NothingLeft, TaskError
from behindbeside.orders import Order
from behindbeside.terms import order_of
from tests.plainly import all_exchanges, all_orders, behind_all, fours, orders_of_terms, pairs_of_term, stand_in_n
from tests.samples import CROWN, N, Draw, drawn_terms
from tests.test_exchanges import no_exchanges
from tests.values import LONG, nested, other_kinds

# Exchanges that can be made one after another on four tasks of which 0 is ahead of 1, and what is behind each one.
PAIRS = ((0, 1),)
STEPS = (((2,), (3,)), ((0, 2), (1, 3)), ((0,), (2,)), ((1,), (3,)))
BEHIND = [behind_all(4, PAIRS, STEPS[:count]) for count in range(5)]


class Halt(BaseException):
    """No Exception, as an interrupt is none."""


class BenchTests(unittest.TestCase):
    def bench(self):
        return Bench(Order(4, PAIRS))

    def stands(self, bench, pairs, steps, undone=()):
        """See what a bench is: its first order, the exchanges that stand, and those that can be made again."""
        many = bench.first.many
        now = behind_all(many, pairs, steps)
        self.assertIs(type(bench.first), Order)
        self.assertEqual(bench.first.pairs, tuple(pairs))
        self.assertIs(type(bench.now), Order)
        self.assertEqual((bench.now.many, bench.now.pairs), (many, now))
        self.assertEqual(len(bench), len(steps))
        self.assertEqual(bench.exchanges(), tuple(steps))
        self.assertIs(type(bench.exchanges()), tuple)
        self.assertEqual(bench.more(), len(now) - len(pairs))
        self.assertIs(type(bench.more()), int)
        # What can be made again is seen on a copy.
        other = deepcopy(bench)
        for exchange in reversed(undone):
            self.assertEqual(other.redo(), exchange)
        self.assertEqual(other.now.pairs, behind_all(many, pairs, [*steps, *reversed(undone)]))
        self.assertRaises(NothingLeft, other.redo)

    def refused(self, bench, function, value, place):
        before = bench.exchanges()
        with self.subTest(repr(value)[:60]):
            with self.assertRaises(BadExchange) as caught:
                function(value)
            if place is None:
                self.assertIsNone(caught.exception.place)
            else:
                self.assertEqual(caught.exception.place, place)
                self.assertIs(type(caught.exception.place), int)
            self.assertEqual(bench.exchanges(), before)


class Interface(BenchTests):
    def test_names_stand_in_their_file(self):
        self.assertEqual(Bench.__module__, "behindbeside.bench")
        self.assertEqual(tried.__module__, "behindbeside.bench")
        self.assertIs(bench_file.Bench, Bench)
        self.assertIs(bench_file.tried, tried)

    def test_methods_stand_in_the_class_itself(self):
        names = ("__init__", "__len__", "__eq__", "now", "exchanges", "more", "do", "do_all", "undo", "redo", "trial")
        for name in names:
            self.assertIn(name, vars(Bench))
        self.assertIsInstance(vars(Bench)["now"], property)

    def test_by_name_and_in_another_order(self):
        bench = Bench(order=Order(2, []))
        self.assertEqual(bench.do(exchange=((0,), (1,))), Order(2, [(0, 1)]))
        bench.undo()
        self.assertEqual(bench.do_all(exchanges=[((1,), (0,))]), Order(2, [(1, 0)]))
        self.assertEqual(tried(bench=bench, function=len), 1)
        self.assertEqual(tried(function=lambda same: same.more(), bench=bench), 1)
        self.assertEqual(tried(bench, function=lambda same: same.now), Order(2, [(1, 0)]))


class Made(BenchTests):
    """A new bench."""

    def test_orders_of_terms(self):
        for many in range(1, 5):
            for pairs in orders_of_terms(many):
                order = Order(many, pairs)
                bench = Bench(order)
                self.assertEqual(bench.first, order)
                self.stands(bench, pairs, [])
                self.assertEqual(order, Order(many, pairs))
        for term in drawn_terms(5, 12, 10):
            self.stands(Bench(order_of(term)), pairs_of_term(12, term), [])

    def test_orders_that_are_no_terms(self):
        orders = [Order(4, pairs) for pairs in all_orders(4) if fours(4, pairs)]
        for order in orders + [Order(5, N), Order(12, N), Order(6, CROWN), Order(12, CROWN)]:
            with self.assertRaises(NoTerm) as caught:
                Bench(order)
            self.assertIsInstance(caught.exception.four, tuple)
            self.assertTrue(stand_in_n(set(order.pairs), caught.exception.four))

    def test_now_cannot_be_set(self):
        bench = self.bench()
        with self.assertRaises(AttributeError):
            bench.now = Order(4, [])
        self.stands(bench, PAIRS, [])


class Do(BenchTests):
    """Points [14] and [21]: do."""

    def test_one_after_another(self):
        bench = self.bench()
        for count, exchange in enumerate(STEPS):
            made = bench.do(exchange)
            self.assertIs(type(made), Order)
            self.assertEqual(made.pairs, BEHIND[count + 1])
            self.assertEqual(bench.now, made)
            self.stands(bench, PAIRS, STEPS[:count + 1])
        self.assertEqual(bench.more(), 5)

    def test_all_exchanges_of_small_orders(self):
        for many in range(1, 4):
            for pairs in orders_of_terms(many):
                for exchange in all_exchanges(many, pairs):
                    bench = Bench(Order(many, pairs))
                    self.assertEqual(bench.do(exchange).pairs, behind_all(many, pairs, [exchange]))
                    self.stands(bench, pairs, [exchange])

    def test_twelve_tasks(self):
        bench = Bench(Order(12, []))
        for task in range(11):
            bench.do(((task,), tuple(range(task + 1, 12))))
        self.assertEqual(bench.now, order_of(("behind", *range(12))))
        self.assertEqual((len(bench), bench.more(), bench.first), (11, 66, Order(12, [])))

    def test_any_other_value(self):
        bench = Bench(Order(3, []))
        bench.do_all([((0,), (1, 2)), ((1,), (2,))])
        bench.undo()
        for value in no_exchanges(3) + [((0,), (1, 2)), ((0,), (1,)), ((2,), (0,)), ((0, 1), (2,))]:
            self.refused(bench, bench.do, value, 0)
        self.stands(bench, (), [((0,), (1, 2))], [((1,), (2,))])
        for value in ([((1,), (2,))], (((1,), (2,)),), [], ()):
            self.refused(bench, bench.do, value, 0)
        self.stands(bench, (), [((0,), (1, 2))], [((1,), (2,))])

    def test_a_new_exchange_ends_what_can_be_made_again(self):
        bench = Bench(Order(3, []))
        bench.do_all([((0,), (1, 2)), ((1,), (2,))])
        bench.undo()
        bench.do(((2,), (1,)))
        self.assertRaises(NothingLeft, bench.redo)
        self.stands(bench, (), [((0,), (1, 2)), ((2,), (1,))])
        # Also if it is the one that was taken back.
        bench.undo()
        bench.undo()
        bench.do(((0,), (1, 2)))
        self.stands(bench, (), [((0,), (1, 2))])

    def test_a_list_is_not_kept(self):
        bench, exchange = self.bench(), [[2], [3]]
        self.refused(bench, bench.do, exchange, 0)
        self.assertEqual(exchange, [[2], [3]])


class DoAll(BenchTests):
    """do_all: all or none."""

    def test_a_list_and_a_tuple(self):
        for count in range(5):
            for kind in (list, tuple):
                bench, several = self.bench(), kind(STEPS[:count])
                made = bench.do_all(several)
                self.assertIs(type(made), Order)
                self.assertEqual(made.pairs, BEHIND[count])
                self.assertEqual(several, kind(STEPS[:count]))
                self.stands(bench, PAIRS, STEPS[:count])

    def test_behind_others(self):
        for count in range(5):
            bench = self.bench()
            bench.do_all(list(STEPS[:count]))
            self.assertEqual(bench.do_all(STEPS[count:]).pairs, BEHIND[4])
            self.stands(bench, PAIRS, STEPS)

    def test_without_any_it_changes_nothing(self):
        bench = self.bench()
        bench.do_all(STEPS)
        bench.undo()
        bench.undo()
        for several in ([], ()):
            self.assertEqual(bench.do_all(several), Order(4, BEHIND[2]))
            self.stands(bench, PAIRS, STEPS[:2], STEPS[:1:-1])
        self.assertEqual(bench.redo(), STEPS[2])

    def test_some_end_what_can_be_made_again(self):
        bench = self.bench()
        bench.do_all(STEPS)
        bench.undo()
        bench.undo()
        bench.do_all([STEPS[2]])
        self.stands(bench, PAIRS, STEPS[:3])

    def test_a_list_that_is_changed_afterwards(self):
        bench, several = self.bench(), list(STEPS)
        bench.do_all(several)
        several.clear()
        self.stands(bench, PAIRS, STEPS)

    def test_any_other_value(self):
        bench = self.bench()
        bench.do_all(STEPS[:3])
        bench.undo()
        for value in other_kinds() + [0, 1, LONG, Order(4, []), {STEPS[2]: True}, {STEPS[2]}, iter([STEPS[2]]), bench]:
            self.refused(bench, bench.do_all, value, None)
        self.stands(bench, PAIRS, STEPS[:2], STEPS[2:3])

    def test_the_first_one_that_cannot_be_made(self):
        bench = self.bench()
        bench.do_all(STEPS[:2])
        bench.undo()
        good = STEPS[1]
        for wrong in no_exchanges(4) + [STEPS[0], ((3,), (0,))]:
            for several, place in (([wrong], 0), ((wrong,), 0), ([good, wrong], 1), ((good, STEPS[2], wrong, None), 2),
                                   ([good, STEPS[2], STEPS[3], wrong], 3)):
                self.refused(bench, bench.do_all, several, place)
        self.stands(bench, PAIRS, STEPS[:1], STEPS[1:2])
        self.refused(bench, bench.do_all, STEPS[1], 0)
        self.refused(bench, bench.do_all, [good, good], 1)
        self.refused(bench, bench.do_all, [STEPS[2], good], 0)
        self.refused(bench, bench.do_all, nested(50, lambda x: [x], good), 0)
        self.stands(bench, PAIRS, STEPS[:1], STEPS[1:2])


class UndoAndRedo(BenchTests):
    """undo and redo."""

    def test_back_and_forth(self):
        bench = self.bench()
        bench.do_all(STEPS)
        for _ in range(2):
            for count in range(3, -1, -1):
                self.assertEqual(bench.undo(), STEPS[count])
                self.stands(bench, PAIRS, STEPS[:count], STEPS[:count - 1:-1] if count else STEPS[::-1])
            self.assertRaises(NothingLeft, bench.undo)
            self.stands(bench, PAIRS, (), STEPS[::-1])
            for count in range(4):
                self.assertEqual(bench.redo(), STEPS[count])
                self.stands(bench, PAIRS, STEPS[:count + 1], STEPS[:count:-1])
            self.assertRaises(NothingLeft, bench.redo)
            self.stands(bench, PAIRS, STEPS)

    def test_nothing_left_in_a_new_bench(self):
        bench = self.bench()
        for _ in range(2):
            self.assertRaises(NothingLeft, bench.undo)
            self.assertRaises(NothingLeft, bench.redo)
        self.stands(bench, PAIRS, [])
        self.assertRaises(TaskError, bench.undo)
        self.assertRaises(TaskError, bench.redo)

    def test_drawn_steps(self):
        """Compare with lists of exchanges, over many steps."""
        draw = Draw(91)
        for term in drawn_terms(92, 5, 12):
            pairs = pairs_of_term(5, term)
            bench, steps, undone = Bench(order_of(term)), [], []
            for _ in range(25):
                self.step(draw, bench, steps, undone)
                self.stands(bench, pairs, steps, undone)

    def step(self, draw, bench, steps, undone):
        """Do one drawn thing to a bench, and to the lists of what stands and what can be made again."""
        choice = draw.below(6)
        left = all_exchanges(5, bench.now.pairs)
        if choice == 0 and steps:
            undone.append(steps.pop())
            self.assertEqual(bench.undo(), undone[-1])
        elif choice == 1 and undone:
            steps.append(undone.pop())
            self.assertEqual(bench.redo(), steps[-1])
        elif choice == 2:
            self.refused(bench, bench.do_all, [*left[:1], None], len(left[:1]))
        elif choice == 3 and steps:
            self.refused(bench, bench.do, steps[-1], 0)
        elif left:
            exchange = left[draw.below(len(left))]
            bench.do(exchange)
            steps.append(exchange)
            undone.clear()


class Equal(BenchTests):
    """Point [4]: ==, != and other operators."""

    def alike(self, one, other, expected):
        for a, b in ((one, other), (other, one)):
            self.assertIs(a == b, expected)
            self.assertIs(a != b, not expected)

    def test_the_exchanges_that_stand(self):
        benches = []
        for count in range(5):
            bench = self.bench()
            bench.do_all(STEPS[:count])
            benches.append(bench)
        for one, bench in enumerate(benches):
            for other, another in enumerate(benches):
                self.alike(bench, another, one == other)

    def test_whatever_was_undone(self):
        one, other = self.bench(), self.bench()
        one.do_all(STEPS)
        one.undo()
        self.alike(one, other, False)
        other.do_all(STEPS[:3])
        self.alike(one, other, True)
        one.undo()
        other.undo()
        one.undo()
        one.undo()
        self.alike(one, other, False)
        other.undo()
        other.undo()
        self.alike(one, other, True)
        self.alike(one, self.bench(), True)
        other.do(((3,), (2,)))
        other.undo()
        self.alike(one, other, True)

    def test_another_first_order(self):
        self.alike(Bench(Order(2, [])), Bench(Order(2, [(0, 1)])), False)
        self.alike(Bench(Order(2, [])), Bench(Order(3, [])), False)
        self.alike(Bench(Order(2, [(0, 1)])), Bench(Order(2, ((0, 1),))), True)
        # The same order as it is now, and the same exchange.
        one, other = Bench(Order(3, [])), Bench(Order(3, [(1, 2)]))
        for bench in (one, other):
            bench.do(((0,), (1, 2)))
        self.alike(one, other, False)

    def test_other_exchanges_to_the_same_order(self):
        one, other = Bench(Order(3, [])), Bench(Order(3, []))
        one.do_all([((0,), (1, 2)), ((1,), (2,))])
        other.do_all([((0, 1), (2,)), ((0,), (1,))])
        self.assertEqual(one.now, other.now)
        self.alike(one, other, False)

    def test_itself(self):
        bench = self.bench()
        self.alike(bench, bench, True)

    def test_any_other_value(self):
        bench = self.bench()
        others = [0, 1, LONG, [], (), [bench], (bench,), bench.first, bench.now, bench.trial(), 4, PAIRS]
        for value in other_kinds() + others:
            self.alike(bench, value, False)


class Trials(BenchTests):
    """trial and tried."""

    def test_the_block_gets_the_bench_itself(self):
        bench = self.bench()
        with bench.trial() as same:
            self.assertIs(same, bench)

    def test_behind_the_block_it_is_what_it_was(self):
        for count in range(5):
            for back in range(count + 1):
                bench = self.bench()
                bench.do_all(STEPS[:count])
                for _ in range(back):
                    bench.undo()
                rest = STEPS[count - back:count][::-1]
                for change in self.changes():
                    with bench.trial() as same:
                        change(same)
                    self.stands(bench, PAIRS, STEPS[:count - back], rest)
                with bench.trial():
                    pass
                self.stands(bench, PAIRS, STEPS[:count - back], rest)

    def changes(self):
        """Return functions that change a bench, as far as they can."""
        def undo_all(bench):
            while len(bench):
                bench.undo()

        def redo_all(bench):
            try:
                while True:
                    bench.redo()
            except NothingLeft:
                pass

        def do_more(bench):
            left = all_exchanges(4, bench.now.pairs)
            while left:
                bench.do(left[0])
                left = all_exchanges(4, bench.now.pairs)

        def undo_and_do(bench):
            undo_all(bench)
            bench.do(((0, 1), (2, 3)))

        return [undo_all, redo_all, do_more, undo_and_do, lambda bench: bench.do_all([]), len]

    def test_what_is_done_in_the_block_stands_till_it_ends(self):
        bench = self.bench()
        bench.do(STEPS[0])
        with bench.trial() as same:
            same.do(STEPS[1])
            self.assertEqual(bench.exchanges(), STEPS[:2])
            self.assertEqual(bench.undo(), STEPS[1])
            self.assertEqual(bench.undo(), STEPS[0])
            self.assertRaises(NothingLeft, bench.undo)
            self.assertEqual(bench.redo(), STEPS[0])
        self.stands(bench, PAIRS, STEPS[:1])

    def test_exceptions_pass(self):
        for error in (ValueError("a"), KeyError("b"), NothingLeft(), BadExchange(3), Halt(), KeyboardInterrupt(),
                      SystemExit(2), GeneratorExit(), StopIteration(), RuntimeError()):
            bench = self.bench()
            bench.do_all(STEPS[:2])
            bench.undo()
            with self.assertRaises(type(error)) as caught:
                with bench.trial() as same:
                    same.do_all(STEPS[1:])
                    raise error
            self.assertIs(caught.exception, error)
            self.stands(bench, PAIRS, STEPS[:1], STEPS[1:2])

    def test_leaving_a_block_in_other_ways(self):
        bench = self.bench()
        for exchange in STEPS[:1] * 3:
            with bench.trial() as same:
                same.do(exchange)
                continue
        for exchange in STEPS[:1]:
            with bench.trial() as same:
                same.do(exchange)
                break

        def leave():
            with bench.trial() as same:
                return same.do(STEPS[0])

        self.assertEqual(leave().pairs, BEHIND[1])
        self.stands(bench, PAIRS, [])

    def test_a_trial_within_a_trial(self):
        bench = self.bench()
        bench.do(STEPS[0])
        with bench.trial() as outer:
            outer.do(STEPS[1])
            with bench.trial() as inner:
                self.assertIs(inner, bench)
                inner.undo()
                inner.undo()
                inner.do(((0, 1), (2, 3)))
            self.stands(bench, PAIRS, STEPS[:2])
            bench.undo()
            with self.assertRaises(Halt):
                with outer.trial() as inner:
                    inner.do_all(STEPS[1:])
                    with inner.trial():
                        inner.undo()
                        raise Halt()
            self.stands(bench, PAIRS, STEPS[:1], STEPS[1:2])
            bench.undo()
        self.stands(bench, PAIRS, STEPS[:1])

    def test_two_trials_in_one_block(self):
        bench, other = self.bench(), Bench(Order(2, []))
        with bench.trial() as one, other.trial() as two, bench.trial():
            one.do(STEPS[0])
            two.do(((0,), (1,)))
        self.stands(bench, PAIRS, [])
        self.stands(other, (), [])

    def test_the_block_begins_later_than_the_trial_is_made(self):
        bench = self.bench()
        trial = bench.trial()
        bench.do(STEPS[0])
        with trial as same:
            same.do(STEPS[1])
        self.stands(bench, PAIRS, STEPS[:1])
        bench.do(STEPS[1])
        with trial as same:
            self.assertIs(same, bench)
            same.undo()
        self.stands(bench, PAIRS, STEPS[:2])

    def test_one_trial_within_itself(self):
        bench = self.bench()
        trial = bench.trial()
        with trial as outer:
            outer.do(STEPS[0])
            with trial as inner:
                inner.do(STEPS[1])
            self.stands(bench, PAIRS, STEPS[:1])
        self.stands(bench, PAIRS, [])

    def test_without_a_block_a_trial_does_nothing(self):
        bench = self.bench()
        bench.trial()
        bench.do(STEPS[0])
        self.stands(bench, PAIRS, STEPS[:1])

    def test_tried(self):
        bench = self.bench()
        bench.do_all(STEPS[:2])
        bench.undo()
        seen = []
        self.assertEqual(tried(bench, lambda same: same.do_all(STEPS[1:])).pairs, BEHIND[4])
        self.assertEqual(tried(bench, lambda same: (same.undo(), len(same))), (STEPS[0], 0))
        self.assertIs(tried(bench, lambda same: same), bench)
        self.assertIsNone(tried(bench, seen.append))
        self.assertIs(seen[0], bench)
        made = []
        self.assertIs(tried(bench, lambda same: made), made)
        self.stands(bench, PAIRS, STEPS[:1], STEPS[1:2])

    def test_tried_with_an_exception(self):
        bench = self.bench()
        bench.do_all(STEPS[:2])
        bench.undo()
        for error in (ValueError("a"), Halt(), KeyboardInterrupt(), NothingLeft()):
            def function(same):
                same.do_all(STEPS[1:])
                raise error

            with self.assertRaises(type(error)) as caught:
                tried(bench, function)
            self.assertIs(caught.exception, error)
            self.stands(bench, PAIRS, STEPS[:1], STEPS[1:2])
        self.assertRaises(BadExchange, tried, bench, lambda same: same.do(None))
        self.stands(bench, PAIRS, STEPS[:1], STEPS[1:2])

    def test_tried_within_tried(self):
        bench = self.bench()

        def outer(same):
            same.do(STEPS[0])
            count = tried(same, lambda inner: inner.do(STEPS[1]) and len(inner))
            return count, len(same)

        self.assertEqual(tried(bench, outer), (2, 1))
        self.stands(bench, PAIRS, [])


if __name__ == "__main__":
    unittest.main()
