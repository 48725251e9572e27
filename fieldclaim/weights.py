"""Weights of lines, for a guard that claims what weighs most."""

from fieldclaim.claims import GUARD, free_points, has_some
from fieldclaim.winning import free_part


def danger(field, guards, mine, yours):
    return fraction(weight(field, guards, mine, yours, field[1]), unit(field, guards))


def pull(field, guards, mine, yours, point):
    return fraction(weight(field, guards, mine, yours, lines_with(field, point)), unit(field, guards))


def heaviest(field, guards, mine, yours):
    told = ()
    free = free_points(field, mine, yours)
    while len(told) < guards and len(free) > 0:
        told = told + (heaviest_point(field, guards, mine, yours + told, free),)
        free = free_points(field, mine, yours + told)
    return told


def is_safe(game):
    if game[1] == GUARD:
        return is_below_one(danger(game[0], game[3], (), ()))
    return all([is_below_one(danger(game[0], game[3], (point,), ())) for point in range(game[0][0])])


def heaviest_point(field, guards, mine, yours, free):
    pulls = [weight(field, guards, mine, yours, lines_with(field, point)) for point in free]
    # The free points rise, and index tells the first place.
    return free[pulls.index(max(pulls))]


def lines_with(field, point):
    return [line for line in field[1] if point in line]


# Weights are counted in a small part of 1, so that they are whole numbers: 1 is so many of it.
def unit(field, guards):
    return power(guards + 1, field[0])


def weight(field, guards, mine, yours, lines):
    needed = [free_part(line, mine) for line in lines if not has_some(yours, line)]
    return sum([power(guards + 1, field[0] - len(part)) for part in needed])


# Written as a loop, because the exponent is not known beforehand.
def power(base, times):
    told = 1
    for turn in range(times):
        told = told * base
    return told


def fraction(upper, lower):
    divisor = common_divisor(upper, lower)
    return (upper // divisor, lower // divisor)


def common_divisor(one, other):
    while other > 0:
        rest = one % other
        one = other
        other = rest
    return one


def is_below_one(pair):
    return pair[0] < pair[1]
