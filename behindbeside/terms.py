"""Terms: tasks put together by behind and beside."""

from behindbeside.checks import is_whole
from behindbeside.errors import BadTerm
from behindbeside.orders import MOST_TASKS, Order

BEHIND = "behind"
BESIDE = "beside"


def is_term(value):
    """Tell whether any value is a term."""
    # A list of what is still to be looked at, instead of recursion: a value may be nested deeper than any term.
    waiting = [value]
    tasks = []
    while waiting:
        part = waiting.pop()
        if is_whole(part, 0, MOST_TASKS - 1) and part not in tasks:
            tasks.append(part)
        elif has_parts(part):
            waiting.extend(part[1:])
        else:
            return False
    return max(tasks) == len(tasks) - 1


def has_parts(value):
    """Tell whether any value is a tuple of one of the words and at least two more items."""
    if not isinstance(value, tuple) or len(value) < 3 or not isinstance(value[0], str):
        return False
    return value[0] in (BEHIND, BESIDE)


def order_of(term):
    """Return the order of a term."""
    refuse_no_term(term)
    return Order(len(tasks_in(term)), pairs_in(term))


def normal(term):
    """Return the normal term of the same order."""
    refuse_no_term(term)
    return normal_part(term)


def refuse_no_term(value):
    """Raise BadTerm if a value is no term."""
    if not is_term(value):
        raise BadTerm(value)


def tasks_in(term):
    """Return the tasks of a part of a term, as they stand."""
    if isinstance(term, int):
        return [term]
    return [task for part in term[1:] for task in tasks_in(part)]


def pairs_in(term):
    """Return the pairs that a part of a term tells."""
    if isinstance(term, int):
        return []
    pairs = []
    earlier = []
    for part in term[1:]:
        tasks = tasks_in(part)
        pairs.extend(pairs_in(part))
        if term[0] == BEHIND:
            pairs.extend([(one, other) for one in earlier for other in tasks])
        earlier.extend(tasks)
    return pairs


def least_task(term):
    """Return the least task of a part of a term."""
    return min(tasks_in(term))


def normal_part(term):
    """Return a part of a term in its normal form."""
    if isinstance(term, int):
        return term
    word = term[0]
    parts = []
    for part in term[1:]:
        made = normal_part(part)
        # A part of the same word tells nothing that its own parts do not tell here.
        if has_parts(made) and made[0] == word:
            parts.extend(made[1:])
        else:
            parts.append(made)
    if word == BESIDE:
        parts = sorted(parts, key=least_task)
    return (word, *parts)
