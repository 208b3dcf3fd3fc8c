"""Runs: all tasks of an order, each behind those that are ahead of it.

The bits of an integer tell which tasks are done; for each task, ahead has the bits of those ahead of it.
"""

from behindbeside.checks import is_whole
from behindbeside.errors import BadNumber, BadRun
from behindbeside.orders import has_task


def is_run(order, value):
    """Tell whether any value is a run of an order."""
    return has_places(order, value) and first_wrong(order, value) is None


def count_runs(order):
    """Return how many runs an order has."""
    return ways_left(bits_ahead(order), 0, {})


def runs(order):
    """Yield all runs of an order, ascending."""
    ahead = bits_ahead(order)
    run = filled(ahead, ())
    while run is not None:
        yield run
        run = run_behind(ahead, run)


def run_at(order, number):
    """Return the run with a number."""
    ahead = bits_ahead(order)
    known = {}
    if not is_whole(number, 0, ways_left(ahead, 0, known) - 1):
        raise BadNumber(number)
    run = ()
    left = number
    while len(run) < order.many:
        done = bits_of(run)
        for task in free_tasks(ahead, done):
            ways = ways_left(ahead, done | 1 << task, known)
            if left < ways:
                break
            left = left - ways
        run = (*run, task)
    return run


def run_number(order, run):
    """Return the number of a run."""
    if not has_places(order, run):
        raise BadRun(None)
    place = first_wrong(order, run)
    if place is not None:
        raise BadRun(place)
    ahead = bits_ahead(order)
    known = {}
    number = 0
    for at, task in enumerate(run):
        done = bits_of(run[:at])
        earlier = [other for other in free_tasks(ahead, done) if other < task]
        number += sum([ways_left(ahead, done | 1 << other, known) for other in earlier])
    return number


def has_places(order, value):
    """Tell whether any value is a tuple of as many items as there are tasks."""
    return isinstance(value, tuple) and len(value) == order.many


def first_wrong(order, items):
    """Return the number of the first item that cannot stand there in a run, or None."""
    ahead = bits_ahead(order)
    for place, item in enumerate(items):
        if not is_whole(item, 0, order.many - 1) or item not in free_tasks(ahead, bits_of(items[:place])):
            return place
    return None


def bits_ahead(order):
    """Return for each task the bits of those ahead of it."""
    tasks = list(range(order.many))
    return [bits_of([other for other in tasks if has_task(order.behind[other], task)]) for task in tasks]


def bits_of(tasks):
    """Return the bits that tell some tasks, each told once."""
    return sum([1 << task for task in tasks])


def free_tasks(ahead, done):
    """Return the tasks that can be done next, ascending."""
    return [task for task, bits in enumerate(ahead) if not has_task(done, task) and bits & ~done == 0]


def ways_left(ahead, done, known):
    """Return in how many ways a run can go on behind the tasks done; known has what is counted so far."""
    if done not in known:
        free = free_tasks(ahead, done)
        # Behind all tasks there is one way: to do nothing more.
        known[done] = sum([ways_left(ahead, done | 1 << task, known) for task in free]) if free else 1
    return known[done]


def filled(ahead, start):
    """Return the first run that begins with some tasks."""
    run = start
    while len(run) < len(ahead):
        run = (*run, free_tasks(ahead, bits_of(run))[0])
    return run


def run_behind(ahead, run):
    """Return the run that comes next behind a run, or None."""
    for place in range(len(run) - 1, -1, -1):
        start = run[:place]
        later = [task for task in free_tasks(ahead, bits_of(start)) if task > run[place]]
        if later:
            return filled(ahead, (*start, later[0]))
    return None
