"""Leading from one order of a term to another one by exchanges."""

from behindbeside.errors import BadExchange, Lacks, OtherTasks
from behindbeside.exchanges import walked
from behindbeside.finding import parts_of, refuse_four, term_of
from behindbeside.orders import is_task_pair
from behindbeside.terms import BEHIND, BESIDE, tasks_in

EXCHANGES = "exchanges"
PAIR = "pair"


def lead(one, other):
    """Return exchanges that lead from one order to another one."""
    refuse_two(one, other)
    pair = first_lacking(one, other)
    if pair is not None:
        raise Lacks(pair)
    return tuple(exchanges_to(one, term_of(other)))


def way_paper(one, other):
    """Return a way paper on two orders."""
    refuse_two(one, other)
    pair = first_lacking(one, other)
    if pair is not None:
        return (PAIR, *pair)
    return (EXCHANGES, tuple(exchanges_to(one, term_of(other))))


def is_way_paper(one, other, value):
    """Tell whether any value is a way paper on two orders."""
    refuse_two(one, other)
    if not isinstance(value, tuple) or len(value) == 0 or not isinstance(value[0], str):
        return False
    if value[0] == EXCHANGES:
        return len(value) == 2 and is_way(one, other, value[1])
    return value[0] == PAIR and is_lacking(one, other, value[1:])


def refuse_two(one, other):
    """Raise the error of two orders between which no exchanges are asked for."""
    refuse_four(one)
    refuse_four(other)
    if one.many != other.many:
        raise OtherTasks()


def first_lacking(one, other):
    """Return the first pair of the first order that the second one lacks, or None."""
    for pair in one.pairs:
        if pair not in other.pairs:
            return pair
    return None


def is_lacking(one, other, value):
    """Tell whether any value is a pair of the first order that the second one lacks."""
    if not is_task_pair(one.many, value):
        return False
    return value in one.pairs and value not in other.pairs


def is_way(one, other, value):
    """Tell whether any value is a tuple of exchanges that lead from one order to another one."""
    if not isinstance(value, tuple):
        return False
    try:
        return walked(one, value) == other
    except BadExchange:
        return False


def exchanges_to(order, term):
    """Return exchanges that lead an order, on the tasks of a term that has all its pairs, to the order of the term."""
    if isinstance(term, int):
        return []
    parts = term[1:]
    found = []
    # What is put ahead of what here ties no two tasks of one part: so the order as it was tells all about the parts.
    if term[0] == BEHIND:
        tasks = [tasks_in(part) for part in parts]
        for place in range(1, len(parts)):
            later = [task for part in tasks[place:] for task in part]
            found.extend(exchanges_between(order, tasks[place - 1], later))
    for part in parts:
        found.extend(exchanges_to(order, part))
    return found


def exchanges_between(order, front, back):
    """Return exchanges that put each task of the front ahead of each one of the back.

    No task of the back is ahead of one of the front.
    """
    if len(front) == 0 or len(back) == 0:
        return []
    word, groups = parts_of(order, sorted(front + back))
    found = []
    for group in groups:
        first = [task for task in group if task in front]
        last = [task for task in group if task in back]
        found.extend(exchanges_between(order, first, last))
    # Parts one behind another need no exchange: all but one of them have tasks of the front or of the back alone.
    if word == BESIDE:
        found.append((tuple(sorted(front)), tuple(sorted(back))))
    return found
