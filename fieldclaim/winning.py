"""Which hand has its way, and by which claims."""

from fieldclaim.claims import (
    BUILDER,
    GUARD,
    at_a_time,
    behind,
    choices,
    claims,
    decided,
    has_all,
    has_some,
    other_hand,
)


def winner(game):
    return winner_from(game, (), (), game[1])


def winner_from(game, mine, yours, whose):
    return Search(game).winner_at(mine, yours, whose)


def good_claims(game, mine, yours, whose):
    if decided(game, mine, yours) is not None:
        return ()
    search = Search(game)
    return tuple([claim for claim in claims(game, mine, yours, whose) if search.is_good(mine, yours, whose, claim)])


# Keeps what it has found out of one game, so that no position is gone through twice.
#
# It goes by the open lines alone. A point in none of them is of no use, and a point more never harms
# the hand that has it; so it is enough to try claims of points of open lines, as many as can be.
class Search:
    def __init__(self, game):
        self.game = game
        self.known = {}

    def winner_at(self, mine, yours, whose):
        return self.winner_of(open_lines(self.game[0][1], mine, yours), whose)

    def is_good(self, mine, yours, whose, claim):
        held = behind(mine, yours, whose, claim)
        return self.winner_at(held[0], held[1], other_hand(whose)) == whose

    def winner_of(self, lines, whose):
        if len(lines) == 0:
            return GUARD
        if () in lines:
            return BUILDER
        if (lines, whose) not in self.known:
            self.known[(lines, whose)] = self.searched(lines, whose)
        return self.known[(lines, whose)]

    def searched(self, lines, whose):
        shortest = min([len(line) for line in lines])
        if whose == BUILDER and shortest <= at_a_time(self.game, BUILDER):
            return BUILDER
        for claim in self.worth_trying(lines, whose):
            held = behind((), (), whose, claim)
            if self.winner_of(open_lines(lines, held[0], held[1]), other_hand(whose)) == whose:
                return whose
        return other_hand(whose)

    def worth_trying(self, lines, whose):
        tried = choices(points_by_use(lines), at_a_time(self.game, whose))
        if whose == BUILDER:
            return tried
        # The guard loses at once if it leaves a line that the builder can fill with its next claim.
        pressing = [line for line in lines if len(line) <= at_a_time(self.game, BUILDER)]
        return tuple([claim for claim in tried if spoils(claim, pressing)])


# What the builder still needs of each line that the guard has no point of. A line with all points
# of another one is left out: whoever gets or spoils the shorter one has no need of it.
def open_lines(lines, mine, yours):
    needed = [free_part(line, mine) for line in lines if not has_some(yours, line)]
    unlike = sorted(set(needed))
    return tuple([line for line in unlike if not has_another(line, unlike)])


def free_part(line, mine):
    return tuple([point for point in line if point not in mine])


def has_another(line, lines):
    return any([other != line and has_all(line, other) for other in lines])


def spoils(points, lines):
    return all([has_some(points, line) for line in lines])


# Points of many lines come first, because a good claim is mostly found early among them.
def points_by_use(lines):
    uses = {}
    for line in lines:
        for point in line:
            uses[point] = uses.get(point, 0) + 1
    return tuple(sorted(uses, key=lambda point: (-uses[point], point)))
