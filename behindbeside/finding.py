"""Finding the term of an order, or four of its tasks that stand in an N."""

from behindbeside.checks import is_whole
from behindbeside.errors import NoTerm
from behindbeside.orders import has_task
from behindbeside.terms import BEHIND, BESIDE, is_term, order_of

TERM = "term"
FOUR = "four"


def term_of(order):
    """Return the normal term of an order, or None if it is no term's."""
    if four_of(order) is not None:
        return None
    return term_over(order, list(range(order.many)))


def four_of(order):
    """Return the first four tasks that stand in an N, or None."""
    tasks = list(range(order.many))
    for one in tasks:
        for other in [task for task in tasks if not is_tied(order, one, task)]:
            both = order.behind[one] & order.behind[other]
            rest = order.behind[other] & ~order.behind[one]
            for third in [task for task in tasks if has_task(both, task)]:
                for fourth in [task for task in tasks if has_task(rest, task)]:
                    if stand_in_n(order, one, other, third, fourth):
                        return (one, other, third, fourth)
    return None


def paper(order):
    """Return a paper on an order."""
    four = four_of(order)
    if four is not None:
        return (FOUR, four)
    return (TERM, term_of(order))


def is_paper(order, value):
    """Tell whether any value is a paper on an order."""
    if not isinstance(value, tuple) or len(value) != 2:
        return False
    word, told = value
    if not isinstance(word, str):
        return False
    if word == TERM:
        return is_term(told) and order_of(told) == order
    return word == FOUR and is_four(order, told)


def refuse_four(order):
    """Raise NoTerm if four tasks stand in an N, and so the order is no term's."""
    four = four_of(order)
    if four is not None:
        raise NoTerm(four)


def is_tied(order, one, other):
    """Tell whether one of two tasks is ahead of the other one."""
    return has_task(order.behind[one], other) or has_task(order.behind[other], one)


def stand_in_n(order, one, other, third, fourth):
    """Tell whether four tasks stand in an N, as they are told."""
    # No task can be told twice: it would be tied to itself, or not be tied to one that it must be tied to.
    for ahead, task in ((one, third), (other, third), (other, fourth)):
        if not has_task(order.behind[ahead], task):
            return False
    return not any([is_tied(order, a, b) for a, b in ((one, other), (one, fourth), (third, fourth))])


def is_four(order, value):
    """Tell whether any value is a tuple of four tasks that stand in an N as told."""
    if not isinstance(value, tuple) or len(value) != 4:
        return False
    if not all([is_whole(task, 0, order.many - 1) for task in value]):
        return False
    one, other, third, fourth = value
    return stand_in_n(order, one, other, third, fourth)


def term_over(order, tasks):
    """Return the normal term of an order on some of its tasks, of which no four stand in an N."""
    if len(tasks) == 1:
        return tasks[0]
    word, groups = parts_of(order, tasks)
    parts = [term_over(order, group) for group in groups]
    return (word, *parts)


def parts_of(order, tasks):
    """Cut two tasks or more, of which no four stand in an N, as finely as one word can.

    Return the word and the groups of tasks: ascending by their least tasks, or one behind another.
    """
    groups = groups_of(order, tasks, True)
    if len(groups) > 1:
        return (BESIDE, groups)
    # Of its own group fewer tasks are ahead of a task than the group has: so any of them tells the group's place.
    groups = sorted(groups_of(order, tasks, False), key=lambda group: count_ahead(order, tasks, group[0]))
    return (BEHIND, groups)


def groups_of(order, tasks, tied):
    """Return the greatest groups of tasks that hang together, ascending by their least tasks.

    If tied is False, those that hang together by tasks that are not tied.
    """
    groups = []
    for task in tasks:
        joined = [task]
        apart = []
        for group in groups:
            if any([is_tied(order, task, other) == tied for other in group]):
                joined.extend(group)
            else:
                apart.append(group)
        groups = [*apart, sorted(joined)]
    return sorted(groups)


def count_ahead(order, tasks, task):
    """Return how many of some tasks are ahead of a task."""
    return len([other for other in tasks if has_task(order.behind[other], task)])
