"""What the document says, told again in the plainest way, for comparing."""

from functools import cache
from itertools import combinations, permutations, product


def followed(pairs):
    """Return the set of all pairs that follow of pairs."""
    found = set(pairs)
    while True:
        more = {(a, d) for a, b in found for c, d in found if b == c} - found
        if not more:
            return found
        found |= more


def first_wrong(many, pairs):
    """Return the number of the first pair that goes against the ones before it, or None."""
    for place, (one, other) in enumerate(pairs):
        if (other, one) in followed(pairs[:place]):
            return place
    return None


def path_to(term, task):
    """Return the words and numbers of the parts that lead to a task in a term, or None."""
    if term == task:
        return []
    if isinstance(term, int):
        return None
    for at, part in enumerate(term[1:]):
        rest = path_to(part, task)
        if rest is not None:
            return [(term[0], at)] + rest
    return None


def is_ahead_in(term, one, other):
    """Tell whether a task is ahead of another one in the order of a term."""
    for (word, here), (_, there) in zip(path_to(term, one), path_to(term, other)):
        if here != there:
            return word == "behind" and here < there
    return False


def pairs_of_term(many, term):
    """Return the ascending tuple of all pairs of the order of a term of so many tasks."""
    tasks = range(many)
    return tuple((a, b) for a in tasks for b in tasks if a != b and is_ahead_in(term, a, b))


def least(term):
    return term if isinstance(term, int) else min(least(part) for part in term[1:])


def is_normal(term):
    """Tell whether a term is normal."""
    if isinstance(term, int):
        return True
    word, *parts = term
    if any(not isinstance(part, int) and part[0] == word for part in parts):
        return False
    if word == "beside" and any(least(one) >= least(other) for one, other in zip(parts, parts[1:])):
        return False
    return all(is_normal(part) for part in parts)


def splits(tasks):
    """Return all ways to cut a tuple into one part or more, none of them empty."""
    if not tasks:
        return [()]
    return [(tasks[:k], *rest) for k in range(1, len(tasks) + 1) for rest in splits(tasks[k:])]


def terms_over(tasks):
    """Return all terms, normal or not, whose tasks stand in them in the order of a tuple."""
    if len(tasks) == 1:
        return [tasks[0]]
    found = []
    for parts in splits(tasks):
        if len(parts) < 2:
            continue
        rows = [()]
        for part in parts:
            rows = [(*row, term) for row in rows for term in terms_over(part)]
        found.extend((word, *row) for word in ("behind", "beside") for row in rows)
    return found


def all_terms(many):
    """Return all terms of so many tasks, normal or not."""
    return [term for tasks in permutations(range(many)) for term in terms_over(tasks)]


@cache
def all_orders(many):
    """Return the pairs of all orders of so many tasks."""
    if many == 1:
        return ((),)
    new = many - 1
    found = []
    for pairs in all_orders(new):
        for places in product(("ahead", "behind", "apart"), repeat=new):
            more = [(task, new) for task in range(new) if places[task] == "ahead"]
            more += [(new, task) for task in range(new) if places[task] == "behind"]
            told = {*pairs, *more}
            if followed(told) == told and not any((b, a) in told for a, b in told):
                found.append(tuple(sorted(told)))
    return tuple(found)


@cache
def orders_of_terms(many):
    """Return the pairs of all orders of terms of so many tasks: of those in which no four tasks stand in an N."""
    return tuple(pairs for pairs in all_orders(many) if not fours(many, pairs))


def stand_in_n(pairs, four):
    """Tell whether four tasks stand in an N as told: these pairs, and no other ones, tie them."""
    a, b, c, d = four
    if (a, c) not in pairs or len({a, b, c, d}) < 4:
        return False
    return {(x, y) for x in four for y in four if (x, y) in pairs} == {(a, c), (b, c), (b, d)}


def fours(many, pairs):
    """Return all four tasks that stand in an N, ascending."""
    told = set(pairs)
    return [(a, b, c, d) for a, b in permutations(range(many), 2)
            for c in range(many) if (a, c) in told and (b, c) in told
            for d in range(many) if stand_in_n(told, (a, b, c, d))]


def lots(many):
    """Return all lots of so many tasks."""
    return [lot for size in range(1, many + 1) for lot in combinations(range(many), size)]


def greatest_sets(tasks, pairs):
    """Return the greatest sets of tasks that hang together."""
    sets = [{task} for task in tasks]
    for a, b in pairs:
        if a in tasks and b in tasks:
            one = next(kept for kept in sets if a in kept)
            other = next(kept for kept in sets if b in kept)
            if one is not other:
                sets.remove(other)
                one |= other
    return sets


def is_exchange(many, pairs, front, back):
    """Tell whether two lots are an exchange on the order of a term, by the words of the document."""
    both = {*front, *back}
    if len(both) < len(front) + len(back):
        return False
    for other in set(range(many)) - both:
        ahead = all((other, task) in pairs for task in both)
        behind = all((task, other) in pairs for task in both)
        tied = any((other, task) in pairs or (task, other) in pairs for task in both)
        if not ahead and not behind and tied:
            return False
    sets = greatest_sets(both, pairs)
    if len(sets) == 1:
        return False
    return all((a, b) in pairs for kept in sets for a in kept & set(front) for b in kept & set(back))


def all_exchanges(many, pairs):
    """Return all exchanges on the order of a term, ascending."""
    told = set(pairs)
    return [(front, back) for front in sorted(lots(many)) for back in sorted(lots(many))
            if is_exchange(many, told, front, back)]


def behind_exchange(pairs, front, back):
    """Return the ascending tuple of pairs of the order behind an exchange."""
    return tuple(sorted(followed([*pairs, *[(a, b) for a in front for b in back]])))


def behind_all(many, pairs, exchanges):
    """Return the pairs behind some exchanges, one after another, or None if one of them cannot be made."""
    for front, back in exchanges:
        if not is_exchange(many, set(pairs), front, back):
            return None
        pairs = behind_exchange(pairs, front, back)
    return pairs


def all_runs(many, pairs):
    """Return all runs of an order, ascending."""
    return [run for run in permutations(range(many)) if all(run.index(a) < run.index(b) for a, b in pairs)]


def ways_to_run(many, pairs):
    """Return how many runs an order has, also of many tasks."""
    ahead = [{a for a, b in pairs if b == task} for task in range(many)]
    # For each set of tasks that may be done first: in how many ways.
    ways = {frozenset(): 1}
    for _ in range(many):
        more = {}
        for done, count in ways.items():
            for task in range(many):
                if task not in done and ahead[task] <= done:
                    more[done | {task}] = more.get(done | {task}, 0) + count
        ways = more
    return ways[frozenset(range(many))]


def all_rows(many, pairs):
    """Return all rows of an order."""
    told = set(pairs)
    found = last = [(task,) for task in range(many)]
    while last:
        last = [(*row, task) for row in last for task in range(many) if (row[-1], task) in told]
        found = found + last
    return found


def wide_lots(many, pairs):
    """Return all wide lots of an order."""
    told = set(pairs)
    return [lot for lot in lots(many) if not any((a, b) in told or (b, a) in told for a, b in combinations(lot, 2))]
