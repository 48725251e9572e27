"""A second judge of small games, straight by the document's words, without a shortcut."""

from functools import lru_cache
from itertools import combinations, product

SQUARE = (9, ((0, 1, 2), (0, 3, 6), (0, 4, 8), (1, 4, 7), (2, 4, 6), (2, 5, 8), (3, 4, 5), (6, 7, 8)))
FORK = (3, ((0, 1), (0, 2)))
# Fields whose lines lie in one another, beside one another, over one another; with idle points too.
FIELDS = (
    (1, ()),
    (1, ((0,),)),
    (2, ((0,), (1,))),
    (2, ((0, 1),)),
    (3, ((0, 1), (0, 2))),
    (3, ((0, 1), (0, 2), (1, 2))),
    (3, ((0,), (0, 1, 2), (1, 2))),
    (4, ((0, 1), (2, 3))),
    (4, ((0, 1, 2, 3), (1,), (2, 3))),
    (4, ((1, 2),)),
    (4, ((0, 1), (0, 2), (0, 3))),
    (5, ((0, 1, 2), (2, 3, 4))),
    (5, ((0, 1), (1, 2), (2, 3), (3, 4))),
    (5, ((1, 2, 3, 4),)),
    (5, ((0, 1, 2), (0, 3, 4), (1, 2, 3), (2, 4))),
)


def all_lines(many):
    return sorted(line for size in range(1, many + 1) for line in combinations(range(many), size))


def all_fields(many, most_lines):
    for size in range(most_lines + 1):
        for lines in combinations(all_lines(many), size):
            yield (many, lines)


# Those with fewer points first, of equally long ones that which comes first.
def tuples_in_order(many):
    for size in range(many + 1):
        yield from combinations(range(many), size)


def all_positions(many):
    for owners in product((0, 1, None), repeat=many):
        yield tuple(tuple(point for point in range(many) if owners[point] == hand) for hand in (0, 1))


def all_counts():
    return list(product((1, 2, 3), repeat=2))


def games_of(field):
    return [(field, first, builds, guards) for first in (0, 1) for builds, guards in all_counts()]


def plain_claims(game, mine, yours, whose):
    free = sorted(set(range(game[0][0])) - set(mine) - set(yours))
    return list(combinations(free, min(len(free), game[2 + whose])))


def plain_behind(mine, yours, whose, claim):
    held = [mine, yours]
    held[whose] = tuple(sorted(held[whose] + claim))
    return tuple(held)


def plain_decided(game, mine, yours):
    lines = [set(line) for line in game[0][1]]
    if any(line <= set(mine) for line in lines):
        return 0
    return 1 if all(line & set(yours) for line in lines) else None


@lru_cache(maxsize=None)
def has_its_way(game, hand, mine, yours, whose):
    ended = plain_decided(game, mine, yours)
    if ended is not None:
        return ended == hand
    ways = [
        has_its_way(game, hand, *plain_behind(mine, yours, whose, claim), 1 - whose)
        for claim in plain_claims(game, mine, yours, whose)
    ]
    return any(ways) if whose == hand else all(ways)


def plain_winner(game, mine, yours, whose):
    ways = [has_its_way(game, hand, mine, yours, whose) for hand in (0, 1)]
    assert sorted(ways) == [False, True]
    return ways.index(True)


def plain_good(game, mine, yours, whose):
    if plain_decided(game, mine, yours) is not None:
        return ()
    return tuple(
        claim
        for claim in plain_claims(game, mine, yours, whose)
        if has_its_way(game, whose, *plain_behind(mine, yours, whose, claim), 1 - whose)
    )


def all_trees(game, hand, mine=(), yours=(), whose=None):
    whose = game[1] if whose is None else whose
    ended = plain_decided(game, mine, yours)
    if ended is not None:
        return [()] if ended == hand else []
    behind = [
        (claim, all_trees(game, hand, *plain_behind(mine, yours, whose, claim), 1 - whose))
        for claim in plain_claims(game, mine, yours, whose)
    ]
    if whose == hand:
        return [(claim, tree) for claim, trees in behind for tree in trees]
    return list(product(*[trees for claim, trees in behind]))


# Every rising tuple of rising pairs, no point in two of them.
@lru_cache(maxsize=None)
def all_pairs_apart(many):
    return [
        pairs
        for size in range(many // 2 + 1)
        for pairs in combinations(combinations(range(many), 2), size)
        if len({point for pair in pairs for point in pair}) == 2 * size
    ]


def plain_pairings(field):
    return [
        pairs
        for pairs in all_pairs_apart(field[0])
        if all(any(set(pair) <= set(line) for pair in pairs) for line in field[1])
    ]


# Whether the guard has a point of each line at the end, whatever the builder claims, one point at a
# time; answer(mine, yours, point) tells what the guard claims when the builder has claimed a point.
def guard_holds(field, answer, mine, yours):
    free = [point for point in range(field[0]) if point not in mine + yours]
    if not free:
        return all(set(line) & set(yours) for line in field[1])
    for point in free:
        held = tuple(sorted(mine + (point,)))
        if not guard_holds(field, answer, held, tuple(sorted(yours + answer(held, yours, point)))):
            return False
    return True
