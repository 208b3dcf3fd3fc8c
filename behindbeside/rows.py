"""Rows of tasks one ahead of another, and lots of tasks that are not tied."""

from behindbeside.finding import is_tied
from behindbeside.orders import has_task


def longest(order):
    """Return the first of the longest rows of an order."""
    lengths = row_lengths(order)
    tasks = list(range(order.many))
    row = ()
    for length in range(max(lengths), 0, -1):
        fitting = [task for task in tasks if lengths[task] == length]
        row = (*row, fitting[0])
        tasks = tasks_behind(order, fitting[0])
    return row


def widest(order):
    """Return the first of the wide lots with as many tasks as any."""
    lots = [()]
    for task in range(order.many):
        lots = lots + [(*lot, task) for lot in lots if not any([is_tied(order, task, other) for other in lot])]
    most = max([len(lot) for lot in lots])
    return min([lot for lot in lots if len(lot) == most])


def rows_over(order):
    """Return rows over an order, as few as can be."""
    before = {}
    # The more tasks stand next behind another one, the fewer rows there are.
    for task in range(order.many):
        put_next(order, task, before, [])
    following = {before[task]: task for task in before}
    firsts = [task for task in range(order.many) if task not in before]
    return tuple([row_from(first, following) for first in firsts])


def tasks_behind(order, task):
    """Return the tasks behind a task, ascending."""
    return [other for other in range(order.many) if has_task(order.behind[task], other)]


def row_lengths(order):
    """Return for each task how many tasks the longest row has that begins with it."""
    lengths = [0] * order.many
    # Fewer tasks are behind a task than behind each one ahead of it: so its length is known when theirs are told.
    for task in sorted(list(range(order.many)), key=lambda one: len(tasks_behind(order, one))):
        lengths[task] = 1 + max([lengths[other] for other in tasks_behind(order, task)], default=0)
    return lengths


def put_next(order, task, before, asked):
    """Find a task to stand next behind a task, and tell whether one was found.

    before tells for tasks the one that they stand next behind: it is changed, for other tasks too if need be.
    asked are those that were asked already.
    """
    for other in tasks_behind(order, task):
        if other in asked:
            continue
        asked.append(other)
        if other not in before or put_next(order, before[other], before, asked):
            before[other] = task
            return True
    return False


def row_from(first, following):
    """Return the row that begins with a task; following tells for tasks the one that stands next behind."""
    row = [first]
    while row[-1] in following:
        row.append(following[row[-1]])
    return tuple(row)
