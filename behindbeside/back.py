"""Back from told runs to the order of which they are all runs, or to a run that is lacking."""

from behindbeside.checks import is_whole
from behindbeside.errors import BadNumber, BadRuns, TooGreat
from behindbeside.orders import Order, is_task_pair
from behindbeside.runs import is_run, runs

MOST_RUNS = 200
MOST_TOLD_TASKS = 8
ORDER = "order"
RUN = "run"


def paper_of(many, told):
    """Return a paper on told runs."""
    refuse_told(many, told)
    order = tightest(many, told)
    run = first_untold(order, told)
    if run is not None:
        return (RUN, run)
    return (ORDER, order.pairs)


def is_paper_of(many, told, value):
    """Tell whether any value is a paper on told runs."""
    refuse_told(many, told)
    if not isinstance(value, tuple) or len(value) != 2:
        return False
    word, item = value
    if not isinstance(word, str):
        return False
    order = tightest(many, told)
    if word == ORDER:
        return is_all_pairs(order, item) and first_untold(order, told) is None
    return word == RUN and is_run(order, item) and item not in told


def refuse_told(many, told):
    """Raise the error of a number of tasks and told runs of which no paper is asked for."""
    if not is_whole(many, 1, MOST_TOLD_TASKS):
        raise BadNumber(many)
    if not is_told(many, told):
        raise BadRuns(told)
    if len(told) > MOST_RUNS:
        raise TooGreat(MOST_RUNS)


def is_told(many, value):
    """Tell whether any value is told runs of so many tasks."""
    if not isinstance(value, tuple) or len(value) == 0:
        return False
    free = Order(many, ())
    return all([is_run(free, item) for item in value])


def tightest(many, told):
    """Return the order with the most pairs of which all told runs are runs.

    A run of it is one of each order of which all told runs are runs: those have some of its pairs, and no others.
    """
    tasks = list(range(many))
    pairs = [(one, other) for one in tasks for other in tasks if is_always_ahead(told, one, other)]
    return Order(many, pairs)


def is_always_ahead(told, one, other):
    """Tell whether a task stands ahead of another one in each told run."""
    return all([run.index(one) < run.index(other) for run in told])


def first_untold(order, told):
    """Return the first run of an order that is not told, or None."""
    seen = set(told)
    for run in runs(order):
        if run not in seen:
            return run
    return None


def is_all_pairs(order, value):
    """Tell whether any value is the tuple of all pairs of an order."""
    if not isinstance(value, tuple):
        return False
    return all([is_task_pair(order.many, pair) for pair in value]) and value == order.pairs
