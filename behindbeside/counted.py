"""Counting and listing the orders of terms, and mending orders that are no term's."""

from behindbeside.checks import is_whole
from behindbeside.errors import BadNumber, TooGreat
from behindbeside.finding import four_of, is_tied
from behindbeside.orders import MOST_TASKS, Order

MOST_OF_ALL = 4
MOST_MENDED = 5


def count_orders(many):
    """Return how many orders of terms with so many tasks there are."""
    if not is_whole(many, 1, MOST_TASKS):
        raise BadNumber(many)
    # For each number of tasks: those that are no "behind", those that are no "beside", and all. One task is neither.
    no_behind = [0, 1]
    no_beside = [0, 1]
    total = [0, 1]
    for size in range(2, many + 1):
        parts = list(range(1, size))
        besides = sum([choose(size - 1, part - 1) * no_beside[part] * total[size - part] for part in parts])
        behinds = sum([choose(size, part) * no_behind[part] * total[size - part] for part in parts])
        no_behind.append(besides)
        no_beside.append(behinds)
        total.append(besides + behinds)
    return total[many]


def orders_of(many):
    """Return all orders of terms with so many tasks, ascending by their pairs."""
    if not is_whole(many, 1, MOST_OF_ALL):
        raise BadNumber(many)
    found = []
    level = [Order(many, ())]
    while level:
        found.extend(orders_of_terms(level))
        level = one_pair_more(level)
    return tuple(sorted(found, key=lambda order: order.pairs))


def mended(order):
    """Return the first order of a term that has all pairs of an order, and as few more as can be."""
    if order.many > MOST_MENDED:
        raise TooGreat(MOST_MENDED)
    level = [order]
    found = orders_of_terms(level)
    while not found:
        level = one_pair_more(level)
        found = orders_of_terms(level)
    return min(found, key=lambda one: one.pairs)


def choose(many, few):
    """Return in how many ways so few of so many things can be chosen."""
    ways = 1
    for place in range(few):
        ways = ways * (many - place) // (place + 1)
    return ways


def orders_of_terms(orders):
    """Return those of some orders that are orders of terms."""
    return [order for order in orders if four_of(order) is None]


def one_pair_more(orders):
    """Return all orders that have just one pair more than one of some orders, each once.

    From an order to each one that has all its pairs and more, there is a way on which one pair comes at a time.
    """
    found = {}
    for order in orders:
        for pair in free_pairs(order):
            made = Order(order.many, [*order.pairs, pair])
            if len(made.pairs) == len(order.pairs) + 1:
                found[made.pairs] = made
    return list(found.values())


def free_pairs(order):
    """Return all pairs of tasks that are not tied."""
    tasks = list(range(order.many))
    return [(one, other) for one in tasks for other in tasks if one != other and not is_tied(order, one, other)]
