"""Benches: orders that exchanges make tighter, and tighter ones taken back."""

from behindbeside.errors import NothingLeft
from behindbeside.exchanges import orders_behind
from behindbeside.finding import refuse_four


class Kept:
    """What a bench was when a block of a trial began; earlier is what was kept before, or None."""

    def __init__(self, bench, earlier):
        self.steps = bench.steps
        self.undone = bench.undone
        self.earlier = earlier


class Trial:
    """A trial of a bench; kept is what the bench was when the innermost block of the trial began."""

    def __init__(self, bench):
        self.bench = bench
        self.kept = None

    def __enter__(self):
        self.kept = Kept(self.bench, self.kept)
        return self.bench

    def __exit__(self, kind, value, trace):
        self.bench.steps = self.kept.steps
        self.bench.undone = self.kept.undone
        self.kept = self.kept.earlier


class Bench:
    """An order that exchanges make tighter.

    first is the order. steps tells each exchange that stands, and the order behind it. undone tells those that were
    taken back and can be made again, the last one at the end.
    """

    def __init__(self, order):
        refuse_four(order)
        self.first = order
        self.steps = ()
        self.undone = ()

    def __len__(self):
        return len(self.steps)

    def __eq__(self, other):
        return isinstance(other, Bench) and self.first == other.first and self.steps == other.steps

    @property
    def now(self):
        """The order as it is now."""
        if len(self.steps) == 0:
            return self.first
        return self.steps[-1][1]

    def exchanges(self):
        """Return the exchanges that stand."""
        return tuple([exchange for exchange, order in self.steps])

    def more(self):
        """Return how many pairs the order has more than the first one."""
        return len(self.now.pairs) - len(self.first.pairs)

    def do(self, exchange):
        """Make an exchange, and return the new order."""
        return self.do_all([exchange])

    def do_all(self, exchanges):
        """Make the exchanges of a list or tuple, all or none, and return the new order."""
        made = orders_behind(self.now, exchanges)
        if made:
            self.steps = self.steps + tuple(zip(exchanges, made))
            self.undone = ()
        return self.now

    def undo(self):
        """Take back the last exchange that stands, and return it."""
        if len(self.steps) == 0:
            raise NothingLeft()
        step = self.steps[-1]
        self.steps = self.steps[:-1]
        self.undone = (*self.undone, step)
        return step[0]

    def redo(self):
        """Make the last exchange again that was taken back, and return it."""
        if len(self.undone) == 0:
            raise NothingLeft()
        step = self.undone[-1]
        self.undone = self.undone[:-1]
        self.steps = (*self.steps, step)
        return step[0]

    def trial(self):
        """Return a trial: a block with it gets the bench, which is then what it was when the block began."""
        return Trial(self)


def tried(bench, function):
    """Call a function with a bench in a trial, and return what it returns."""
    with bench.trial() as same:
        return function(same)
