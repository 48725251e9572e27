"""Positions: what can be claimed there, what is behind a claim, and whether it is decided."""

from fieldclaim.errors import NoClaim
from fieldclaim.things import is_number

BUILDER = 0
GUARD = 1


def claims(game, mine, yours, whose):
    return choices(free_points(game[0], mine, yours), at_a_time(game, whose))


def claimed(game, mine, yours, whose, claim):
    if not is_claim(game, mine, yours, whose, claim):
        raise NoClaim(f"not to be claimed here: {claim!r}")
    return behind(mine, yours, whose, claim)


def decided(game, mine, yours):
    lines = game[0][1]
    if any([has_all(mine, line) for line in lines]):
        return BUILDER
    if all([has_some(yours, line) for line in lines]):
        return GUARD
    return None


def is_claim(game, mine, yours, whose, thing):
    if not isinstance(thing, tuple):
        return False
    # The kinds are asked too, because to Python a truth equals a number.
    if not all([is_number(part, 0, game[0][0] - 1) for part in thing]):
        return False
    return thing in claims(game, mine, yours, whose)


# Takes it as settled that the claim is one of the hand's.
def behind(mine, yours, whose, claim):
    if whose == BUILDER:
        return (tuple(sorted(mine + claim)), yours)
    return (mine, tuple(sorted(yours + claim)))


def at_a_time(game, whose):
    return game[2] if whose == BUILDER else game[3]


def other_hand(hand):
    return GUARD if hand == BUILDER else BUILDER


def free_points(field, mine, yours):
    taken = mine + yours
    return tuple([point for point in range(field[0]) if point not in taken])


def has_all(points, line):
    return all([point in points for point in line])


def has_some(points, line):
    return any([point in points for point in line])


# In the order in which the points are handed in; all of them at once, if there are fewer.
def choices(points, count):
    if count >= len(points):
        return (points,)
    if count == 0:
        return ((),)
    told = []
    for k in range(len(points) - count + 1):
        for rest in choices(points[k + 1 :], count - 1):
            told.append((points[k],) + rest)
    return tuple(told)
