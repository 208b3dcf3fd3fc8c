"""What the document says, told again in the plainest way, for comparing."""

from itertools import permutations


def followed(pairs):
    """Return the set of all pairs that follow of pairs."""
    found = set(pairs)
    while True:
        more = {(a, d) for a, b in found for c, d in found if b == c} - found
        if not more:
            return found
        found |= more


def first_wrong(many, pairs):
    """Return the number of the first pair that goes against the ones before it, or None."""
    for place, (one, other) in enumerate(pairs):
        if (other, one) in followed(pairs[:place]):
            return place
    return None


def path_to(term, task):
    """Return the words and numbers of the parts that lead to a task in a term, or None."""
    if term == task:
        return []
    if isinstance(term, int):
        return None
    for at, part in enumerate(term[1:]):
        rest = path_to(part, task)
        if rest is not None:
            return [(term[0], at)] + rest
    return None


def is_ahead_in(term, one, other):
    """Tell whether a task is ahead of another one in the order of a term."""
    for (word, here), (_, there) in zip(path_to(term, one), path_to(term, other)):
        if here != there:
            return word == "behind" and here < there
    return False


def pairs_of_term(many, term):
    """Return the ascending tuple of all pairs of the order of a term of so many tasks."""
    tasks = range(many)
    return tuple((a, b) for a in tasks for b in tasks if a != b and is_ahead_in(term, a, b))


def least(term):
    return term if isinstance(term, int) else min(least(part) for part in term[1:])


def is_normal(term):
    """Tell whether a term is normal."""
    if isinstance(term, int):
        return True
    word, *parts = term
    if any(not isinstance(part, int) and part[0] == word for part in parts):
        return False
    if word == "beside" and any(least(one) >= least(other) for one, other in zip(parts, parts[1:])):
        return False
    return all(is_normal(part) for part in parts)


def splits(tasks):
    """Return all ways to cut a tuple into one part or more, none of them empty."""
    if not tasks:
        return [()]
    return [(tasks[:k], *rest) for k in range(1, len(tasks) + 1) for rest in splits(tasks[k:])]


def terms_over(tasks):
    """Return all terms, normal or not, whose tasks stand in them in the order of a tuple."""
    if len(tasks) == 1:
        return [tasks[0]]
    found = []
    for parts in splits(tasks):
        if len(parts) < 2:
            continue
        rows = [()]
        for part in parts:
            rows = [(*row, term) for row in rows for term in terms_over(part)]
        found.extend((word, *row) for word in ("behind", "beside") for row in rows)
    return found


def all_terms(many):
    """Return all terms of so many tasks, normal or not."""
    return [term for tasks in permutations(range(many)) for term in terms_over(tasks)]
