"""What is promised over the whole program: of all fields and games, and of all functions."""

import unittest

from plain_judge import FIELDS, FORK, SQUARE, all_counts, all_fields, all_lines, all_positions, games_of

from fieldclaim.changing import beside, essential, renamed, with_line, without_point
from fieldclaim.claims import claimed, claims, decided
from fieldclaim.errors import NoClaim
from fieldclaim.handicaps import cover, curb, head_start
from fieldclaim.pairings import is_pairing, pairing, partner, reply
from fieldclaim.reading import read
from fieldclaim.things import is_field, is_game
from fieldclaim.trees import is_tree, tree_for
from fieldclaim.weights import danger, heaviest, is_safe, pull
from fieldclaim.winning import good_claims, winner, winner_from
from fieldclaim.writing import written

# Twelve points and eleven lines, of which the last one joins the two halves.
HALVES = ((6, ((0, 1), (0, 2), (1, 2), (3, 4, 5), (4, 5))), (6, ((0, 1, 2), (0, 3), (1, 4), (2, 3, 4, 5), (5,))))
TWELVE = with_line(beside(HALVES[0], HALVES[1]), (2, 6))
TWO_SQUARES = beside(SQUARE, SQUARE)


def more(points, point):
    return tuple(sorted(points + (point,)))


class WhatHelpsWhom(unittest.TestCase):
    def builder_is_not_harmed(self, before, behind, place):
        self.assertFalse(before == 0 and behind == 1, place)

    def guard_is_not_harmed(self, before, behind, place):
        self.assertFalse(before == 1 and behind == 0, place)

    def positions(self, field):
        return [(mine, yours, whose) for mine, yours in all_positions(field[0]) for whose in (0, 1)]

    def test_a_line_more_and_a_line_fewer(self):
        for field in FIELDS:
            for game in games_of(field):
                for line in all_lines(field[0]):
                    behind = winner((with_line(field, line),) + game[1:])
                    self.builder_is_not_harmed(winner(game), behind, (game, line))
                for line in field[1]:
                    fewer = (field[0], tuple(other for other in field[1] if other != line))
                    self.guard_is_not_harmed(winner(game), winner((fewer,) + game[1:]), (game, line))
                for point in range(field[0]):
                    behind = winner((without_point(field, point),) + game[1:])
                    self.guard_is_not_harmed(winner(game), behind, (game, point))

    def test_a_line_more_in_positions(self):
        for field in FIELDS[:7]:
            for builds, guards in ((1, 1), (2, 1), (1, 2)):
                game = (field, 0, builds, guards)
                for place in self.positions(field):
                    for line in all_lines(field[0]):
                        behind = winner_from((with_line(field, line), 0, builds, guards), *place)
                        self.builder_is_not_harmed(winner_from(game, *place), behind, (game, place, line))

    def test_a_point_more(self):
        for field in FIELDS[:11]:
            for builds, guards in all_counts():
                game = (field, 0, builds, guards)
                for mine, yours, whose in self.positions(field):
                    before = winner_from(game, mine, yours, whose)
                    for point in set(range(field[0])) - {*mine, *yours}:
                        place = (game, mine, yours, whose, point)
                        behind = winner_from(game, more(mine, point), yours, whose)
                        self.builder_is_not_harmed(before, behind, place)
                        behind = winner_from(game, mine, more(yours, point), whose)
                        self.guard_is_not_harmed(before, behind, place)

    def test_a_point_more_at_the_beginning(self):
        for field in FIELDS[11:] + (SQUARE,):
            for game in games_of(field):
                for point in range(field[0]):
                    behind = winner_from(game, (point,), (), game[1])
                    self.builder_is_not_harmed(winner(game), behind, (game, point))
                    behind = winner_from(game, (), (point,), game[1])
                    self.guard_is_not_harmed(winner(game), behind, (game, point))

    def test_one_more_at_a_time_and_fewer_for_the_other(self):
        for field in FIELDS + (SQUARE,):
            for field, first, builds, guards in games_of(field):
                before = winner((field, first, builds, guards))
                place = (field, first, builds, guards)
                self.builder_is_not_harmed(before, winner((field, first, builds + 1, guards)), place)
                self.guard_is_not_harmed(before, winner((field, first, builds, guards + 1)), place)
                if guards > 1:
                    self.builder_is_not_harmed(before, winner((field, first, builds, guards - 1)), place)
                if builds > 1:
                    self.guard_is_not_harmed(before, winner((field, first, builds - 1, guards)), place)

    def test_beginning(self):
        for field in FIELDS + (SQUARE,):
            for builds, guards in all_counts():
                place = (field, builds, guards)
                told = [winner((field, first, builds, guards)) for first in (0, 1)]
                self.builder_is_not_harmed(told[1], told[0], place)
                self.guard_is_not_harmed(told[0], told[1], place)

    def test_beginning_in_positions(self):
        for field in FIELDS[:11]:
            for builds, guards in all_counts():
                game = (field, 0, builds, guards)
                for mine, yours in all_positions(field[0]):
                    told = [winner_from(game, mine, yours, whose) for whose in (0, 1)]
                    self.builder_is_not_harmed(told[1], told[0], (game, mine, yours))

    def test_each_change_does_help_somewhere(self):
        single = (3, ((0, 1),))
        self.assertEqual([winner((field, 0, 1, 1)) for field in (single, with_line(single, (0, 2)))], [1, 0])
        self.assertEqual([winner((without_point(FORK, 1), 0, 1, 1)), winner((FORK, 0, 1, 1))], [1, 0])
        self.assertEqual([winner((FORK, first, 1, 1)) for first in (0, 1)], [0, 1])
        self.assertEqual([winner((FORK, 0, 1, guards)) for guards in (1, 2)], [0, 1])
        self.assertEqual([winner(((2, ((0, 1),)), 0, builds, 1)) for builds in (1, 2)], [1, 0])
        self.assertEqual([winner_from((FORK, 1, 1, 1), mine, (), 1) for mine in ((), (0,))], [1, 0])
        self.assertEqual([winner_from((FORK, 0, 1, 1), (), yours, 0) for yours in ((), (1,))], [0, 1])


class BesideOneAnother(unittest.TestCase):
    def asked(self, one, other):
        alone = [winner((field, 0, 1, 1)) for field in (one, other)]
        self.assertEqual(winner((beside(one, other), 0, 1, 1)), min(alone), (one, other))

    def test_all_fields_of_two_points_beside_those_of_three(self):
        for one in all_fields(2, 3):
            for other in all_fields(3, 7):
                self.asked(one, other)
                self.asked(other, one)

    def test_small_fields(self):
        for one in FIELDS:
            for other in FIELDS:
                self.asked(one, other)

    def test_fields_of_nine_points(self):
        held = (9, ((0, 1, 2, 3), (2, 4, 6, 8), (1, 5, 7)))
        for one, other in ((SQUARE, held), (held, SQUARE), (held, held), (SQUARE, SQUARE), (SQUARE, (9, ()))):
            self.asked(one, other)


class ChangesThatChangeNobodysWay(unittest.TestCase):
    def test_essential_lines_alone(self):
        for field in list(all_fields(3, 7)) + list(FIELDS):
            kept = essential(field)
            self.assertEqual(cover(kept), cover(field))
            self.assertEqual(pairing(kept) is None, pairing(field) is None)
            for builds, guards in ((1, 1), (2, 1), (1, 2)):
                for first in (0, 1):
                    self.assertEqual(winner((kept, first, builds, guards)), winner((field, first, builds, guards)))

    def test_other_numbers(self):
        for field in FIELDS:
            turned = renamed(field, tuple(range(1, field[0])) + (0,))
            self.assertEqual(danger(turned, 2, (), ()), danger(field, 2, (), ()))
            self.assertEqual(len(cover(turned)), len(cover(field)))
            self.assertEqual(pairing(turned) is None, pairing(field) is None)
            for game in games_of(field):
                self.assertEqual(winner((turned,) + game[1:]), winner(game))


# Each function of the interface, with what is handed in.
ASKED = (
    (is_field, (SQUARE,)),
    (is_game, ((SQUARE, 0, 1, 1),)),
    (written, (SQUARE,)),
    (read, ("3 : 0 1 , 0 2",)),
    (claims, ((SQUARE, 0, 2, 1), (4,), (0,), 0)),
    (claimed, ((SQUARE, 0, 2, 1), (4,), (0,), 0, (1, 7))),
    (decided, ((SQUARE, 0, 2, 1), (1, 4, 7), (0,))),
    (decided, ((SQUARE, 0, 2, 1), (1, 4), (0,))),
    (winner, ((SQUARE, 0, 1, 1),)),
    (winner_from, ((SQUARE, 0, 1, 1), (4,), (0,), 0)),
    (good_claims, ((SQUARE, 0, 1, 1), (4,), (0,), 0)),
    (tree_for, ((FORK, 0, 1, 1),)),
    (is_tree, ((FORK, 0, 1, 1), 0, ((0,), (((2,), ()), ((1,), ()))))),
    (pairing, ((6, ((0, 1, 2), (2, 3, 4), (4, 5))),)),
    (pairing, (SQUARE,)),
    (is_pairing, ((4, ((0, 1, 2), (2, 3))), ((0, 1), (2, 3)))),
    (is_pairing, ((4, ((0, 1, 2), (2, 3))), ((0, 1), [2, 3]))),
    (partner, (((0, 1), (2, 3)), 2)),
    (reply, ((5, ((0, 1), (2, 3))), ((0, 1), (2, 3)), (0, 2), (1,), 2)),
    (danger, (SQUARE, 2, (4,), (0,))),
    (pull, (SQUARE, 2, (4,), (0,), 7)),
    (heaviest, (SQUARE, 3, (4,), (0,))),
    (is_safe, ((SQUARE, 0, 1, 3),)),
    (head_start, ((SQUARE, 1, 1, 2),)),
    (curb, ((SQUARE, 0, 2, 1),)),
    (cover, (SQUARE,)),
    (with_line, (SQUARE, (0, 5))),
    (without_point, (SQUARE, 4)),
    (beside, (SQUARE, FORK)),
    (renamed, (SQUARE, (8, 7, 6, 5, 4, 3, 2, 1, 0))),
    (essential, ((4, ((0, 1), (0, 1, 2), (2, 3))),)),
)


class AllFunctions(unittest.TestCase):
    def is_plain(self, thing):
        if thing.__class__ is tuple:
            return all(self.is_plain(part) for part in thing)
        return thing is None or thing.__class__ in (int, bool, str)

    def test_what_is_handed_in_is_not_changed(self):
        for function, handed in ASKED:
            before = repr(handed)
            function(*handed)
            self.assertEqual(repr(handed), before, function)

    def test_the_same_is_told_again(self):
        told = [repr(function(*handed)) for function, handed in ASKED]
        for k in reversed(range(len(ASKED))):
            self.assertEqual(repr(ASKED[k][0](*ASKED[k][1])), told[k], ASKED[k][0])

    def test_plain_things_alone_are_told(self):
        for function, handed in ASKED:
            self.assertTrue(self.is_plain(function(*handed)), function)

    def test_truths_are_told_by_these_alone(self):
        for function, handed in ASKED:
            self.assertEqual(isinstance(function(*handed), bool), function.__name__.startswith("is_"), function)


class GreaterFields(unittest.TestCase):
    def test_they_are_beyond_the_bounds(self):
        for field in (TWELVE, TWO_SQUARES, beside(TWO_SQUARES, SQUARE)):
            self.assertGreater(field[0], 9)
            self.assertGreater(len(field[1]), 10)
            self.assertIs(is_field(field), False)

    def test_claims(self):
        game = (TWO_SQUARES, 0, 2, 1)
        told = claims(game, (0, 17), (4, 9), 0)
        self.assertEqual(len(told), 91)
        self.assertEqual([told[0], told[-1]], [(1, 2), (15, 16)])
        self.assertEqual(claims(game, (0,), tuple(range(1, 18)), 1), ((),))
        self.assertEqual(claimed(game, (0, 17), (4, 9), 0, (10, 16)), ((0, 10, 16, 17), (4, 9)))
        self.assertRaises(NoClaim, claimed, game, (0, 17), (4, 9), 0, (9, 16))

    def test_decided(self):
        game = (TWO_SQUARES, 0, 1, 1)
        self.assertEqual(decided(game, (9, 13, 17), (0, 4, 8)), 0)
        self.assertIsNone(decided(game, (), (0, 4, 8)))
        self.assertEqual(decided(game, (), (0, 4, 8, 9, 13, 17)), 1)

    def test_who_has_its_way(self):
        self.assertEqual([winner((TWO_SQUARES, first, 1, 1)) for first in (0, 1)], [0, 0])
        self.assertEqual([winner((TWO_SQUARES, first, 1, 2)) for first in (0, 1)], [1, 1])
        self.assertEqual([winner((TWELVE, first, 1, 1)) for first in (0, 1)], [0, 0])
        self.assertEqual([winner((TWELVE, first, 1, 3)) for first in (0, 1)], [0, 1])
        self.assertEqual(winner_from((TWO_SQUARES, 0, 1, 1), (), (4, 13), 0), 1)
        self.assertEqual(good_claims((TWO_SQUARES, 1, 3, 1), (13,), (9, 10), 0)[-1], (15, 16, 17))

    def test_trees(self):
        ones = (3, ((0, 1), (0, 2), (1, 2)))
        field = beside(beside(ones, ones), beside(ones, (1, ())))
        for first in (0, 1):
            hand, tree = tree_for((field, first, 2, 1))
            self.assertEqual(hand, 0)
            self.assertIs(is_tree((field, first, 2, 1), 0, tree), True)
            self.assertIs(is_tree((field, first, 2, 1), 1, tree), False)

    def test_pairs(self):
        half = (9, ((0, 1, 2), (0, 1, 4), (0, 3, 6), (2, 5, 8), (3, 4, 5, 6), (6, 7, 8)))
        both = with_line(beside(half, half), (2, 5, 11, 14))
        told = pairing(both)
        self.assertIs(is_pairing(both, told), True)
        for k in range(len(told)):
            self.assertIs(is_pairing(both, told[:k] + told[k + 1 :]), False)
        self.assertIs(is_pairing(both, told[:-1] + ((17, 18),)), False)
        self.assertEqual([winner((both, first, 1, 1)) for first in (0, 1)], [1, 1])
        for field in (TWO_SQUARES, TWELVE, beside(half, SQUARE), beside(SQUARE, half), with_line(both, (17,))):
            self.assertIsNone(pairing(field))
        self.assertEqual(partner(((0, 10), (11, 12)), 10), 0)
        self.assertEqual(reply(both, ((0, 10), (11, 12)), (12,), (), 12), 11)
        self.assertEqual(reply(both, ((0, 10), (11, 12)), tuple(range(0, 18, 2)), tuple(range(1, 15, 2)), 16), 15)

    def test_weights(self):
        self.assertEqual(danger(TWO_SQUARES, 1, (), ()), (2, 1))
        self.assertEqual(danger(TWO_SQUARES, 2, (), ()), (16, 27))
        self.assertEqual(danger(TWO_SQUARES, 3, (4,), (13,)), (3, 8))
        self.assertEqual(pull(TWO_SQUARES, 3, (4,), (), 13), (1, 16))
        self.assertEqual(heaviest(TWO_SQUARES, 3, (), ()), (4, 13, 0))
        self.assertEqual(heaviest(TWO_SQUARES, 3, (17,), (4,)), (13, 11, 15))
        for first in (0, 1):
            self.assertIs(is_safe((TWO_SQUARES, first, 1, 1)), False)
            self.assertIs(is_safe((TWO_SQUARES, first, 1, 2)), True)
        self.assertIs(is_safe((beside(TWO_SQUARES, SQUARE), 1, 1, 2)), True)
        self.assertIs(is_safe((beside(TWO_SQUARES, SQUARE), 0, 1, 2)), False)
        long = (40, (tuple(range(40)),))
        self.assertEqual(danger(long, 1, (), ()), (1, 2**40))
        self.assertEqual(danger(long, 3, (7,), ()), (1, 4**39))

    def test_handicaps(self):
        self.assertEqual(cover(TWO_SQUARES), (0, 4, 8, 9, 13, 17))
        self.assertEqual(cover(TWELVE), (0, 1, 4, 6, 7, 11))
        self.assertEqual(cover(beside(TWO_SQUARES, SQUARE)), (0, 4, 8, 9, 13, 17, 18, 22, 26))
        self.assertEqual(curb((TWO_SQUARES, 0, 1, 1)), (0, 9))
        self.assertEqual(curb((TWO_SQUARES, 0, 3, 1)), (0, 4, 8, 9, 13, 17))
        self.assertEqual(head_start((TWO_SQUARES, 1, 1, 3)), (0, 1, 2))
        self.assertEqual(head_start((TWO_SQUARES, 0, 1, 3)), (0, 1))

    def test_changes(self):
        self.assertEqual(essential(TWO_SQUARES), TWO_SQUARES)
        kept = ((0, 1), (0, 2), (1, 2), (2, 6), (4, 5), (6, 7, 8), (6, 9), (7, 10), (8, 9, 10, 11), (11,))
        self.assertEqual(len(TWELVE[1]), 11)
        self.assertEqual(essential(TWELVE), (12, kept[:8] + kept[9:]))
        self.assertEqual(without_point(TWO_SQUARES, 13)[1][:8], SQUARE[1])
        self.assertEqual(len(without_point(TWO_SQUARES, 13)[1]), 12)
        turned = renamed(TWO_SQUARES, tuple(range(9, 18)) + tuple(range(9)))
        self.assertEqual(turned, TWO_SQUARES)


if __name__ == "__main__":
    unittest.main()
