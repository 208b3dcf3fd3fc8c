"""Terms and orders of many tasks that the tests go through."""

from tests.plainly import followed, pairs_of_term

# Four tasks in an N, by the pairs; a crown: each of three tasks is ahead of two of three others.
N = ((0, 2), (1, 2), (1, 3))
CROWN = ((0, 3), (0, 4), (1, 3), (1, 5), (2, 4), (2, 5))


class Draw:
    """Numbers that look drawn, and are the same in each run."""

    def __init__(self, seed):
        self.state = seed

    def below(self, limit):
        self.state = (self.state * 6364136223846793005 + 1442695040888963407) % 2 ** 64
        return (self.state >> 33) % limit

    def shuffled(self, items):
        left = list(items)
        return [left.pop(self.below(len(left))) for _ in range(len(left))]

    def some(self, items):
        return [item for item in items if self.below(2)]


def drawn_term(draw, tasks):
    """Return a term, normal or not, of some tasks in a drawn order."""
    tasks = draw.shuffled(tasks)
    if len(tasks) == 1:
        return tasks[0]
    cuts = sorted({1 + draw.below(len(tasks) - 1) for _ in range(1 + draw.below(3))})
    ends = zip([0] + cuts, cuts + [len(tasks)])
    return (("behind", "beside")[draw.below(2)], *[drawn_term(draw, tasks[low:high]) for low, high in ends])


def drawn_terms(seed, many, count):
    draw = Draw(seed)
    return [drawn_term(draw, range(many)) for _ in range(count)]


def drawn_pairs(draw, many, chance):
    """Return the pairs of a drawn order, of a term or not; the greater the chance, the fewer there are."""
    tasks = draw.shuffled(range(many))
    told = [(a, b) for at, a in enumerate(tasks) for b in tasks[at + 1:] if draw.below(chance) == 0]
    return tuple(sorted(followed(told)))


def drawn_orders(seed, many, count):
    """Return the pairs of drawn orders of so many tasks, with many pairs and with few."""
    draw = Draw(seed)
    return [drawn_pairs(draw, many, 2 + at % 6) for at in range(count)]


def great_orders():
    """Return the pairs of some orders of twelve tasks."""
    rows = [(a, b) for a in range(12) for b in range(a + 1, 12)]
    return [
        (), tuple(rows), tuple(sorted((b, a) for a, b in rows)), tuple((task, task + 6) for task in range(6)),
        tuple((task, task + 1) for task in range(0, 12, 2)), tuple((a, b) for a in range(6) for b in range(6, 12)),
        tuple((a, b) for a, b in rows if a // 2 < b // 2), tuple((a, b) for a, b in rows if a // 3 == b // 3),
        tuple((a, b) for a in range(6) for b in range(6, 12) if b != a + 6), N, CROWN,
        tuple(sorted([(task, task + 6) for task in range(6)] + [(task + 1, task + 6) for task in range(5)])),
    ] + drawn_orders(7, 12, 12)


def loosened(draw, term):
    """Return the term with some words "behind" changed to "beside"."""
    if isinstance(term, int):
        return term
    word = "beside" if draw.below(3) == 0 else term[0]
    return (word, *[loosened(draw, part) for part in term[1:]])


def leveled(many, pairs, lift):
    """Return the pairs of an order of levels that has all pairs: each task is ahead of all on later levels.

    Each task stands one level or, if lift tells it, some levels behind the last one of those ahead of it.
    """
    levels = {}
    while len(levels) < many:
        for task in range(many):
            ahead = [a for a, b in pairs if b == task]
            if task not in levels and all(other in levels for other in ahead):
                levels[task] = 1 + lift[task] + max([levels[other] for other in ahead], default=-1)
    return tuple((a, b) for a in range(many) for b in range(many) if levels[a] < levels[b])


def in_a_row(draw, many, pairs):
    """Return the pairs of a drawn row of all tasks that has all pairs."""
    row = []
    while len(row) < many:
        free = [task for task in range(many) if task not in row and all(a in row for a, b in pairs if b == task)]
        row.append(free[draw.below(len(free))])
    return tuple(sorted((a, b) for at, a in enumerate(row) for b in row[at + 1:]))


def loose_and_tight(seed, many, count):
    """Return pairs of orders of terms, by their pairs, of which the second one has all pairs of the first one."""
    draw = Draw(seed)
    found = []
    for term in drawn_terms(seed + 1, many, count):
        tight = pairs_of_term(many, term)
        loose = pairs_of_term(many, loosened(draw, term))
        found += [(loose, tight), (tight, tight), ((), tight)]
        found += [(tight, leveled(many, tight, [0] * many)), (loose, leveled(many, loose, [0] * many))]
        found += [(loose, leveled(many, loose, [draw.below(3) for _ in range(many)]))]
        found += [(loose, in_a_row(draw, many, loose)), (loose, in_a_row(draw, many, tight))]
    return found


def changed_by_one(many, pairs):
    """Return the pairs of all orders that come of one pair more, with what follows, or of one pair less."""
    found = []
    for a in range(many):
        for b in range(many):
            if a != b and (a, b) not in pairs and (b, a) not in pairs:
                found.append(tuple(sorted(followed([*pairs, (a, b)]))))
    for pair in pairs:
        left = [other for other in pairs if other != pair]
        if followed(left) == set(left):
            found.append(tuple(left))
    return found


def leaning(words, many, left):
    """Return a term nested as deep as can be, the words taken in turn."""
    term = 0
    for task in range(1, many):
        word = words[task % len(words)]
        term = (word, term, task) if left else (word, task, term)
    return term


def deep_terms():
    choices = (("behind",), ("beside",), ("behind", "beside"), ("beside", "behind"), ("behind", "behind", "beside"))
    return [leaning(words, 12, left) for words in choices for left in (True, False)]


def great_terms():
    """Terms of twelve tasks."""
    return [
        ("behind", *range(12)), ("beside", *range(12)), ("behind", *range(11, -1, -1)), ("beside", *range(11, -1, -1)),
        ("behind", ("beside", 11, 0, 5), ("beside", ("behind", 10, 1), ("behind", 9, 2, 8)), 3, ("beside", 7, 4, 6)),
        ("beside", ("behind", 11, 0, 5), ("behind", ("beside", 10, 1), ("beside", 9, 2, 8)), 3, ("behind", 7, 4, 6)),
        ("beside", ("beside", ("beside", 11, 10), ("beside", 9, 8)), ("beside", ("beside", 7, 6), 5, ("beside", 4, 3)),
         ("behind", 2, ("behind", 1, 0))),
        ("behind", ("behind", ("behind", 4, 11), ("beside", 9, 8)), ("behind", ("beside", 7, 6), 5, ("behind", 10, 3)),
         ("beside", 2, ("beside", 1, 0))),
    ] + deep_terms()
