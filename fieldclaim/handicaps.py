"""How few points are enough: for a hand that has them ahead, and to have one of each line."""

from fieldclaim.changing import lines_without
from fieldclaim.claims import BUILDER, GUARD
from fieldclaim.winning import Search


def head_start(game):
    search = Search(game)
    return least_enough(game[0], lambda points: search.winner_at(points, (), game[1]) == BUILDER)


def curb(game):
    search = Search(game)
    return least_enough(game[0], lambda points: search.winner_at((), points, game[1]) == GUARD)


# Point by point: one is in a smallest choice just where the lines without it need fewer points.
def cover(field):
    told = ()
    lines = field[1]
    known = {}
    for point in range(field[0]):
        left = lines_without(lines, point)
        if fewest_points(left, known) < fewest_points(lines, known):
            told = told + (point,)
            lines = left
    return told


# What is enough is to stay so with more points; None where not even all of them are.
def least_enough(field, enough):
    for count in range(field[0] + 1):
        told = first_enough((), tuple(range(field[0])), count, enough)
        if told is not None:
            return told
    return None


def first_enough(held, coming, count, enough):
    if count == 0:
        return held if enough(held) else None
    # Where all that could come is too little, no choice of it needs to be tried.
    if not enough(held + coming):
        return None
    for k in range(len(coming)):
        told = first_enough(held + (coming[k],), coming[k + 1 :], count - 1, enough)
        if told is not None:
            return told
    return None


# How few points it takes to have one of each line; known keeps what has been found out.
def fewest_points(lines, known):
    if len(lines) == 0:
        return 0
    if lines not in known:
        shortest = min(lines, key=len)
        known[lines] = 1 + min([fewest_points(lines_without(lines, point), known) for point in shortest])
    return known[lines]
