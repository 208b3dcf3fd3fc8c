"""Exchanges: where parts stand side by side, first tasks are put ahead of last ones."""

from behindbeside.checks import is_whole
from behindbeside.errors import BadExchange, TooGreat
from behindbeside.finding import groups_of, refuse_four
from behindbeside.orders import Order

MOST_LISTED = 6


def can(order, exchange):
    """Tell whether any value is an exchange on an order."""
    refuse_four(order)
    return is_exchange(order, exchange)


def done(order, exchange):
    """Return the order behind an exchange."""
    if not can(order, exchange):
        raise BadExchange(0)
    return exchanged(order, exchange)


def walked(order, exchanges):
    """Return the order behind a list or tuple of exchanges, one after another."""
    refuse_four(order)
    made = orders_behind(order, exchanges)
    return made[-1] if made else order


def exchanges_of(order):
    """Return all exchanges on an order of at most six tasks, ascending."""
    refuse_four(order)
    if order.many > MOST_LISTED:
        raise TooGreat(MOST_LISTED)
    found = [choice for choice in choices_of(order.many) if is_exchange(order, choice)]
    return tuple(sorted(found))


def orders_behind(order, exchanges):
    """Return the orders behind each exchange of a list or tuple, one after another, on the order of a term."""
    if not isinstance(exchanges, (list, tuple)):
        raise BadExchange(None)
    # Behind an exchange the order is that of a term again: it need not be asked for anew.
    made = []
    last = order
    for place, exchange in enumerate(exchanges):
        if not is_exchange(last, exchange):
            raise BadExchange(place)
        last = exchanged(last, exchange)
        made.append(last)
    return made


def is_exchange(order, value):
    """Tell whether any value is an exchange on the order of a term."""
    if not isinstance(value, tuple) or len(value) != 2:
        return False
    front, back = value
    if not is_lot(order.many, front) or not is_lot(order.many, back):
        return False
    if any([task in front for task in back]):
        return False
    tasks = sorted([*front, *back])
    others = [task for task in range(order.many) if task not in tasks]
    if not all([stands_alike(order, other, tasks) for other in others]):
        return False
    groups = groups_of(order, tasks, True)
    return len(groups) > 1 and all([is_cut(order, group, front, back) for group in groups])


def is_lot(many, value):
    """Tell whether any value is a lot of so many tasks."""
    if not isinstance(value, tuple) or len(value) == 0:
        return False
    if not all([is_whole(task, 0, many - 1) for task in value]):
        return False
    return all([one < other for one, other in zip(value, value[1:])])


def stands_alike(order, other, tasks):
    """Tell whether a task is ahead of all of some others, or behind all of them, or tied to none."""
    ahead = [order.is_ahead(other, task) for task in tasks]
    behind = [order.is_ahead(task, other) for task in tasks]
    return all(ahead) or all(behind) or not any(ahead + behind)


def is_cut(order, group, front, back):
    """Tell whether in a group each task of the front is ahead of each one of the back."""
    ends = [task for task in group if task in back]
    return all([order.is_ahead(task, end) for task in group if task in front for end in ends])


def exchanged(order, exchange):
    """Return the order behind an exchange that can be made."""
    front, back = exchange
    more = [(one, other) for one in front for other in back]
    return Order(order.many, [*order.pairs, *more])


def choices_of(many):
    """Return all pairs of ascending tuples without a common task, of so many tasks; they may be empty."""
    choices = [((), ())]
    for task in range(many):
        with_front = [((*front, task), back) for front, back in choices]
        with_back = [(front, (*back, task)) for front, back in choices]
        choices = choices + with_front + with_back
    return choices
