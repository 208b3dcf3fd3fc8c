"""Putting terms in the places of tasks, and turning a term the other way about."""

from behindbeside.errors import BadTerm, TooGreat
from behindbeside.orders import MOST_TASKS
from behindbeside.terms import BEHIND, normal_part, refuse_no_term, tasks_in


def put(term, terms):
    """Return the normal term that comes of a term if other terms are put in the places of its tasks."""
    refuse_no_term(term)
    if not isinstance(terms, tuple) or len(terms) != len(tasks_in(term)):
        raise BadTerm(terms)
    for item in terms:
        refuse_no_term(item)
    sizes = [len(tasks_in(item)) for item in terms]
    if sum(sizes) > MOST_TASKS:
        raise TooGreat(MOST_TASKS)
    parts = [moved(item, sum(sizes[:place])) for place, item in enumerate(terms)]
    return normal_part(replaced(term, parts))


def turned(term):
    """Return the normal term of the order of a term the other way about."""
    refuse_no_term(term)
    return normal_part(reversed_part(term))


def moved(term, by):
    """Return a part of a term with the number of each task so much greater."""
    if isinstance(term, int):
        return term + by
    return (term[0], *[moved(part, by) for part in term[1:]])


def replaced(term, parts):
    """Return a part of a term with a part of another term in the place of each task."""
    if isinstance(term, int):
        return parts[term]
    return (term[0], *[replaced(part, parts) for part in term[1:]])


def reversed_part(term):
    """Return a part of a term with the parts of each "behind" the other way about."""
    if isinstance(term, int):
        return term
    parts = [reversed_part(part) for part in term[1:]]
    if term[0] == BEHIND:
        parts = parts[::-1]
    return (term[0], *parts)
