import unittest
from copy import deepcopy

from plain_judge import FORK, SQUARE, all_counts, all_trees, plain_behind, plain_claims, plain_decided, plain_winner

from fieldclaim.trees import is_tree, tree_for
from fieldclaim.winning import good_claims, winner

FIELDS = (
    (1, ()),
    (1, ((0,),)),
    (2, ((0,), (1,))),
    (2, ((0, 1),)),
    FORK,
    (3, ((0, 1), (0, 2), (1, 2))),
    (3, ((1,),)),
    (4, ((0, 1), (2, 3))),
    (4, ((1, 2), (1, 3))),
    (4, ((0, 1, 2), (3,))),
)
OTHER_THINGS = (0, 1, -1, True, False, None, "", "()", "text", [], [()], [[]], (None,), (0,), ((),), ((), ()), ([],))


def games():
    return [(field, first, builds, guards) for field in FIELDS for first in (0, 1) for builds, guards in all_counts()]


def nested(thing, depth, kind):
    for step in range(depth):
        thing = kind((thing,))
    return thing


# Every thing that comes of a thing by one part exchanged, left out, put in, doubled or moved.
def altered(thing, parts):
    for part in parts:
        if repr(part) != repr(thing):
            yield part
    if not isinstance(thing, tuple):
        return
    yield list(thing)
    yield (thing,)
    if len(thing) > 1:
        yield thing[::-1]
    for k in range(len(thing) + 1):
        for part in parts:
            yield thing[:k] + (part,) + thing[k:]
    for k in range(len(thing)):
        yield thing[:k] + thing[k + 1 :]
        yield thing[: k + 1] + thing[k:]
        for part in altered(thing[k], parts):
            yield thing[:k] + (part,) + thing[k + 1 :]


class Trees(unittest.TestCase):
    def told(self, game, hand, thing, answer):
        told = is_tree(game, hand, thing)
        # Written out only on a failure: some things are far longer than they are deep.
        if told is not answer:
            self.fail(repr((told, game, hand, thing))[:2000])


class TreeFor(Trees):
    # Straight by the document's words.
    def fits(self, game, hand, mine, yours, whose, tree):
        self.assertIsInstance(tree, tuple)
        ended = plain_decided(game, mine, yours)
        if ended is not None:
            self.assertEqual((ended, tree), (hand, ()))
            return
        there = plain_claims(game, mine, yours, whose)
        if whose == hand:
            self.assertEqual(len(tree), 2)
            self.assertIn(repr(tree[0]), [repr(claim) for claim in there])
            parts = [tree]
        else:
            self.assertEqual(len(tree), len(there))
            parts = zip(there, tree)
        for claim, part in parts:
            self.fits(game, hand, *plain_behind(mine, yours, whose, claim), 1 - whose, part)

    def checked(self, game):
        told = tree_for(game)
        self.assertIsInstance(told, tuple)
        hand, tree = told
        self.assertEqual(repr(hand), repr(winner(game)))
        self.fits(game, hand, (), (), game[1], tree)
        self.told(game, hand, tree, True)
        return hand, tree

    def test_by_hand(self):
        self.assertEqual(tree_for(((3, ()), 0, 1, 1)), (1, ()))
        self.assertEqual(tree_for(((1, ((0,),)), 0, 1, 1)), (0, ((0,), ())))
        self.assertEqual(tree_for(((1, ((0,),)), 1, 1, 1)), (1, ((0,), ())))
        self.assertEqual(tree_for(((2, ((0, 1),)), 0, 1, 1)), (1, (((1,), ()), ((0,), ()))))
        self.assertEqual(tree_for(((2, ((0, 1),)), 0, 2, 1)), (0, ((0, 1), ())))
        self.assertEqual(tree_for((FORK, 0, 1, 1)), (0, ((0,), (((2,), ()), ((1,), ())))))
        self.assertEqual(tree_for(((2, ((0,), (1,))), 1, 1, 1)), (0, (((1,), ()), ((0,), ()))))

    def test_small_games(self):
        for game in games():
            hand, tree = self.checked(game)
            self.assertEqual(hand, plain_winner(game, (), (), game[1]))
            self.told(game, 1 - hand, tree, False)

    def test_the_square_of_nine_points(self):
        for first in (0, 1):
            for builds, guards in all_counts():
                hand, tree = self.checked((SQUARE, first, builds, guards))
                self.told((SQUARE, first, builds, guards), 1 - hand, tree, False)

    def test_more_points_and_lines(self):
        pairs = tuple((point, point + 1) for point in range(0, 10, 2))
        self.assertEqual(self.checked(((11, pairs), 0, 1, 1))[0], 1)
        row = tuple((point, point + 1) for point in range(12))
        for first in (0, 1):
            self.assertEqual(self.checked(((13, row), first, 1, 1))[0], 0)

    def test_the_tree_goes_by_good_claims(self):
        for game in games():
            hand, tree = tree_for(game)
            if hand == game[1] and tree != ():
                self.assertIn(tree[0], good_claims(game, (), (), hand))


class IsTree(Trees):
    def test_a_tree_for_the_builder_by_hand(self):
        game = (FORK, 0, 1, 1)
        tree = ((0,), (((2,), ()), ((1,), ())))
        self.told(game, 0, tree, True)
        self.told(game, 1, tree, False)
        for thing in (
            ((1,), (((2,), ()), ((0,), ()))),
            ((0,), (((1,), ()), ((2,), ()))),
            ((0,), (((2,), ()),)),
            ((0,), (((2,), ()), ((1,), ()), ())),
            ((0,), (((2,), ()), ((1,),))),
            ((0,), (((2,), ()), ((1,), (), ()))),
            ((0,), (((2,), ()), ((1,), ((),)))),
            ((0,), (((2,), ()), ())),
            ((0,), ()),
            ((0,),),
            (0, (((2,), ()), ((1,), ()))),
            (),
            ([0], (((2,), ()), ((1,), ()))),
            ((0,), [((2,), ()), ((1,), ())]),
            ((0,), ([(2,), ()], ((1,), ()))),
            ((0,), (((2,), []), ((1,), ()))),
            [(0,), (((2,), ()), ((1,), ()))],
        ):
            self.told(game, 0, thing, False)
            self.told(game, 1, thing, False)

    def test_trees_for_the_guard_by_hand(self):
        game = ((3, ((0, 1),)), 0, 1, 1)
        # Behind the builder's claim of point 2 the guard has two claims, and either decides at once.
        for last in (((0,), ()), ((1,), ())):
            self.told(game, 1, (((1,), ()), ((0,), ()), last), True)
            self.told(game, 0, (((1,), ()), ((0,), ()), last), False)
        self.told(game, 1, (((0,), ()), ((1,), ()), ((0,), ())), False)
        self.told(game, 1, (((2,), ()), ((0,), ()), ((0,), ())), False)
        self.told(game, 1, (((1,), ()), ((0,), ())), False)
        self.told(game, 1, (((1,), ()), ((0,), ()), ((2,), ())), False)

    def test_truths_are_no_points(self):
        self.told(((2, ((1,),)), 0, 1, 1), 0, ((1,), ()), True)
        self.told(((2, ((1,),)), 0, 1, 1), 0, ((True,), ()), False)
        self.told(((2, ((0,),)), 1, 1, 1), 1, ((0,), ()), True)
        self.told(((2, ((0,),)), 1, 1, 1), 1, ((False,), ()), False)
        self.told(((2, ((0, 1),)), 0, 2, 1), 0, ((0, 1), ()), True)
        for claim in ((False, 1), (0, True), (False, True)):
            self.told(((2, ((0, 1),)), 0, 2, 1), 0, (claim, ()), False)

    def test_claims_that_are_none(self):
        game = ((4, ((0, 1),)), 0, 2, 1)
        self.told(game, 0, ((0, 1), ()), True)
        for claim in ((), (0,), (1, 0), (0, 0), (0, 1, 2), (0, 4), (-1, 0), ((0, 1),), ("0", "1"), (None, 1), "01", 0):
            self.told(game, 0, (claim, ()), False)

    def test_where_it_is_decided_at_the_beginning(self):
        for first in (0, 1):
            self.told(((3, ()), first, 1, 1), 1, (), True)
            self.told(((3, ()), first, 1, 1), 0, (), False)
            for thing in OTHER_THINGS:
                self.told(((3, ()), first, 1, 1), 1, thing, False)
                self.told(((3, ()), first, 1, 1), 0, thing, False)

    def test_nothing_is_left_out_behind_the_decision(self):
        game = ((3, ((0,),)), 0, 1, 1)
        self.told(game, 0, ((0,), ()), True)
        self.told(game, 0, ((0,), ((), ())), False)
        self.told(game, 0, ((0,), (((2,), ()), ((1,), ()))), False)

    def test_things_that_are_no_trees(self):
        deep = [nested(seed, depth, kind) for seed in OTHER_THINGS for depth in (5, 29, 30, 31) for kind in (tuple, list)]
        wide = ()
        for step in range(14):
            wide = (wide, wide)
        claiming = ((0,), ())
        for step in range(30):
            claiming = ((0,), claiming)
        for game in games() + [(SQUARE, 0, 1, 1), (SQUARE, 1, 2, 3)]:
            if game[0][1] == ():
                continue
            for thing in list(OTHER_THINGS) + deep + [(), wide, claiming, [wide], (wide,) * 9]:
                for hand in (0, 1):
                    self.told(game, hand, thing, False)

    def test_just_the_trees_among_all_alterations(self):
        parts = [(), (0,), (1,), 0, True, None, "", [], ((0,), ()), ((1,), ()), ((), ())]
        for field, first, builds, guards in (
            (FORK, 0, 1, 1),
            ((3, ((0, 1),)), 0, 1, 1),
            ((2, ((0, 1),)), 1, 1, 1),
            ((3, ((0, 1), (0, 2), (1, 2))), 1, 1, 1),
            ((3, ((0, 1), (2,))), 1, 1, 1),
            ((4, ((0, 1), (2, 3))), 0, 1, 2),
            ((4, ((0, 1, 2),)), 0, 2, 1),
            ((4, ((1, 2), (1, 3))), 1, 2, 1),
        ):
            game = (field, first, builds, guards)
            hand = winner(game)
            trees = all_trees(game, hand)
            self.assertEqual(all_trees(game, 1 - hand), [])
            self.assertGreater(len(trees), 0)
            # By their writing in Python, because True equals 1 there.
            there = {repr(tree) for tree in trees}
            for tree in trees:
                self.told(game, hand, tree, True)
                self.told(game, 1 - hand, tree, False)
            for tree in trees[:: 1 + len(trees) // 6]:
                for thing in altered(tree, parts):
                    self.told(game, hand, thing, repr(thing) in there)
                    self.told(game, 1 - hand, thing, False)

    def test_a_part_altered_in_a_greater_tree(self):
        game = (SQUARE, 0, 1, 1)
        hand, tree = tree_for(game)
        self.assertEqual(hand, 0)
        self.told(game, 0, (tree[0], tree[1][:-1]), False)
        self.told(game, 0, (tree[0], tree[1] + ((),)), False)
        self.told(game, 0, (tree[0], tree[1][1:] + tree[1][:1]), False)
        self.told(game, 0, tree[::-1], False)
        self.told(game, 0, tree[1], False)
        self.told((SQUARE, 1, 1, 1), 0, tree, False)


class Asked(Trees):
    def test_what_is_handed_in_stays_and_the_same_is_told_again(self):
        game = (SQUARE, 0, 1, 1)
        first = tree_for(game)
        things = [first[1], [[0], []], ((0,), [[(1,), ()]]), [], [nested(0, 30, list)]]
        before = deepcopy(things)
        told = [is_tree(game, 0, thing) for thing in things]
        tree_for((SQUARE, 1, 1, 1))
        self.assertEqual(tree_for(game), first)
        self.assertEqual([is_tree(game, 0, thing) for thing in reversed(things)][::-1], told)
        self.assertEqual(told, [True, False, False, False, False])
        self.assertEqual(repr(things), repr(before))
        self.assertEqual(repr(game), repr((SQUARE, 0, 1, 1)))


if __name__ == "__main__":
    unittest.main()
