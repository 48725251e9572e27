"""Trees of answers: how a hand goes on, whatever the other one claims, until it has its way."""

from fieldclaim.claims import BUILDER, behind, claims, decided, is_claim, other_hand
from fieldclaim.winning import Search, open_lines


def tree_for(game):
    search = Search(game)
    hand = search.winner_at((), (), game[1])
    return (hand, tree_from(search, hand, (), (), game[1]))


def is_tree(game, hand, thing):
    return is_tree_from(game, hand, (), (), game[1], thing)


# Asked only of positions from which the hand has its way.
def tree_from(search, hand, mine, yours, whose):
    if decided(search.game, mine, yours) is not None:
        return ()
    if whose == hand:
        claim = chosen_claim(search, mine, yours, hand)
        return (claim, tree_behind(search, hand, mine, yours, whose, claim))
    answers = claims(search.game, mine, yours, whose)
    return tuple([tree_behind(search, hand, mine, yours, whose, claim) for claim in answers])


def tree_behind(search, hand, mine, yours, whose, claim):
    held = behind(mine, yours, whose, claim)
    return tree_from(search, hand, held[0], held[1], other_hand(whose))


# Any good claim would do. One that leaves little to be done is taken, to keep the tree small.
def chosen_claim(search, mine, yours, hand):
    def left_behind(claim):
        held = behind(mine, yours, hand, claim)
        return left_to_do(open_lines(search.game[0][1], held[0], held[1]), hand)

    ranked = sorted(claims(search.game, mine, yours, hand), key=left_behind)
    place = 0
    while not search.is_good(mine, yours, hand, ranked[place]):
        place = place + 1
    return ranked[place]


def left_to_do(lines, hand):
    if hand == BUILDER:
        return min([len(line) for line in lines], default=0)
    return len(lines)


def is_tree_from(game, hand, mine, yours, whose, thing):
    ended = decided(game, mine, yours)
    if ended is not None:
        return ended == hand and thing == ()
    if not isinstance(thing, tuple):
        return False
    if whose == hand:
        return fits_own_turn(game, hand, mine, yours, thing)
    return fits_other_turn(game, hand, mine, yours, thing)


def fits_own_turn(game, hand, mine, yours, pair):
    if len(pair) != 2 or not is_claim(game, mine, yours, hand, pair[0]):
        return False
    held = behind(mine, yours, hand, pair[0])
    return is_tree_from(game, hand, held[0], held[1], other_hand(hand), pair[1])


def fits_other_turn(game, hand, mine, yours, branches):
    other = other_hand(hand)
    answers = claims(game, mine, yours, other)
    if len(branches) != len(answers):
        return False
    for claim, branch in zip(answers, branches):
        held = behind(mine, yours, other, claim)
        if not is_tree_from(game, hand, held[0], held[1], hand, branch):
            return False
    return True
