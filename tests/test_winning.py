import unittest

from plain_judge import (
    FIELDS,
    FORK,
    SQUARE,
    all_counts,
    all_fields,
    all_positions,
    games_of,
    plain_behind,
    plain_claims,
    plain_decided,
    plain_good,
    plain_winner,
)

from fieldclaim.winning import good_claims, winner, winner_from


class ByHand(unittest.TestCase):
    def told(self, field, builds, guards):
        return [winner((field, first, builds, guards)) for first in (0, 1)]

    def test_no_line(self):
        for builds, guards in all_counts():
            self.assertEqual(self.told((3, ()), builds, guards), [1, 1])

    def test_a_line_of_one_point(self):
        for builds, guards in all_counts():
            self.assertEqual(self.told((1, ((0,),)), builds, guards), [0, 1])
            self.assertEqual(self.told((4, ((2,),)), builds, guards), [0, 1])

    def test_two_lines_of_one_point(self):
        self.assertEqual(self.told((2, ((0,), (1,))), 1, 1), [0, 0])
        self.assertEqual(self.told((2, ((0,), (1,))), 1, 2), [0, 1])
        self.assertEqual(self.told((3, ((0,), (1,), (2,))), 1, 2), [0, 0])
        self.assertEqual(self.told((3, ((0,), (1,), (2,))), 1, 3), [0, 1])

    def test_a_line_of_two_points(self):
        self.assertEqual(self.told((2, ((0, 1),)), 1, 1), [1, 1])
        self.assertEqual(self.told((2, ((0, 1),)), 2, 1), [0, 1])
        self.assertEqual(self.told((2, ((0, 1),)), 3, 1), [0, 1])

    def test_a_fork(self):
        self.assertEqual(self.told(FORK, 1, 1), [0, 1])
        self.assertEqual(self.told(FORK, 1, 2), [1, 1])
        self.assertEqual(self.told(FORK, 2, 1), [0, 1])

    def test_a_round_of_three(self):
        self.assertEqual(self.told((3, ((0, 1), (0, 2), (1, 2))), 1, 1), [0, 1])
        self.assertEqual(self.told((3, ((0, 1), (0, 2), (1, 2))), 2, 1), [0, 0])

    def test_two_lines_that_meet(self):
        self.assertEqual(self.told((5, ((0, 1, 2), (2, 3, 4))), 1, 1), [1, 1])
        self.assertEqual(self.told((5, ((0, 1, 2), (2, 3, 4))), 2, 1), [0, 1])

    def test_good_claims_of_a_fork(self):
        self.assertEqual(good_claims((FORK, 0, 1, 1), (), (), 0), ((0,),))
        self.assertEqual(good_claims((FORK, 0, 1, 1), (), (), 1), ((0,), (1,), (2,)))
        self.assertEqual(good_claims((FORK, 0, 2, 1), (), (), 0), ((0, 1), (0, 2)))
        self.assertEqual(good_claims((FORK, 0, 2, 1), (), (), 1), ((0,),))
        self.assertEqual(good_claims((FORK, 0, 1, 1), (0,), (), 1), ())
        self.assertEqual(good_claims((FORK, 0, 1, 1), (0,), (1,), 0), ((2,),))
        self.assertEqual(good_claims((FORK, 0, 1, 1), (0,), (1,), 1), ((2,),))

    def test_good_claims_among_idle_points(self):
        self.assertEqual(good_claims(((4, ((1, 2),)), 0, 1, 1), (1,), (), 1), ((2,),))
        self.assertEqual(good_claims(((4, ((1, 2),)), 0, 1, 1), (), (), 1), ((0,), (1,), (2,), (3,)))
        self.assertEqual(good_claims(((4, ((1,),)), 0, 2, 1), (), (), 0), ((0, 1), (1, 2), (1, 3)))

    def test_from_decided_positions(self):
        for builds, guards in all_counts():
            for whose in (0, 1):
                game = (FORK, 0, builds, guards)
                for mine, yours, hand in (((0, 1), (), 0), ((0, 2), (1,), 0), ((), (0,), 1), ((0,), (1, 2), 1)):
                    self.assertEqual(winner_from(game, mine, yours, whose), hand)
                    self.assertEqual(good_claims(game, mine, yours, whose), ())
                self.assertEqual(winner_from(((2, ()), 0, builds, guards), (), (), whose), 1)
                self.assertEqual(good_claims(((2, ()), 0, builds, guards), (), (), whose), ())

    def test_from_positions(self):
        self.assertEqual(winner_from((FORK, 0, 1, 1), (0,), (), 1), 0)
        self.assertEqual(winner_from((FORK, 0, 1, 1), (1,), (), 1), 1)
        self.assertEqual(winner_from((FORK, 0, 1, 1), (1,), (), 0), 0)
        self.assertEqual(winner_from((FORK, 0, 1, 1), (), (1,), 0), 1)
        self.assertEqual(winner_from((FORK, 0, 1, 2), (0,), (), 1), 1)


class Judged(unittest.TestCase):
    def test_all_positions_of_small_games(self):
        for field in FIELDS:
            for game in games_of(field):
                if game[1] == 1 and field[0] > 3:
                    continue
                for mine, yours in all_positions(field[0]):
                    for whose in (0, 1):
                        told = (winner_from(game, mine, yours, whose), good_claims(game, mine, yours, whose))
                        good = plain_good(game, mine, yours, whose)
                        self.assertEqual(repr(told), repr((plain_winner(game, mine, yours, whose), good)))

    def test_all_fields_of_three_points(self):
        for field in all_fields(3, 7):
            for game in games_of(field):
                self.assertEqual(repr(winner(game)), repr(plain_winner(game, (), (), game[1])))
                self.assertEqual(good_claims(game, (), (), game[1]), plain_good(game, (), (), game[1]))

    def test_the_square_of_nine_points(self):
        for first, builds, guards in ((0, 1, 1), (1, 1, 1), (0, 2, 2), (1, 2, 1), (0, 1, 2), (1, 3, 3)):
            game = (SQUARE, first, builds, guards)
            self.assertEqual(winner(game), plain_winner(game, (), (), first))
            self.assertEqual(good_claims(game, (), (), first), plain_good(game, (), (), first))

    def test_first_counts_at_the_beginning_alone(self):
        for field in FIELDS[:7]:
            for mine, yours in all_positions(field[0]):
                for whose in (0, 1):
                    for asked in (winner_from, good_claims):
                        told = [asked((field, first, 2, 1), mine, yours, whose) for first in (0, 1)]
                        self.assertEqual(told[0], told[1])


class OneHandAlone(unittest.TestCase):
    def followed(self, game, mine, yours, whose, hand):
        self.assertEqual(winner_from(game, mine, yours, whose), hand)
        ended = plain_decided(game, mine, yours)
        good = good_claims(game, mine, yours, whose)
        self.assertEqual(len(good) > 0, whose == hand and ended is None)
        if ended is not None:
            self.assertEqual(ended, hand)
            return
        for claim in good if whose == hand else plain_claims(game, mine, yours, whose):
            self.followed(game, *plain_behind(mine, yours, whose, claim), 1 - whose, hand)

    def test_the_hand_has_a_good_claim_whatever_the_other_one_does(self):
        for field in FIELDS[:12]:
            for game in games_of(field):
                self.assertIn(winner(game), (0, 1))
                self.followed(game, (), (), game[1], winner(game))


class Greater(unittest.TestCase):
    def test_more_points_and_lines(self):
        row = tuple((point, point + 1) for point in range(11))
        self.assertEqual([winner(((12, row), first, 1, 1)) for first in (0, 1)], [0, 0])
        pairs = tuple((point, point + 1) for point in range(0, 20, 2))
        self.assertEqual([winner(((20, pairs), first, 1, 1)) for first in (0, 1)], [1, 1])
        self.assertEqual(good_claims(((20, pairs), 0, 1, 1), (7,), (), 1), ((6,),))

    def test_two_fields_beside_one_another(self):
        moved = tuple(tuple(point + 9 for point in line) for line in SQUARE[1])
        both = (18, tuple(sorted(SQUARE[1] + moved)))
        self.assertEqual(winner((both, 0, 1, 1)), 0)
        self.assertEqual(winner((both, 1, 1, 1)), 0)
        self.assertEqual(winner_from((both, 0, 1, 1), (), (4, 13), 0), 1)


class Asked(unittest.TestCase):
    def test_what_is_handed_in_stays_and_the_same_is_told_again(self):
        game, mine, yours = (SQUARE, 0, 1, 1), (4,), (1,)
        before = repr((game, mine, yours))

        def told():
            return (winner(game), winner_from(game, mine, yours, 0), good_claims(game, mine, yours, 0))

        first = told()
        winner((SQUARE, 1, 1, 3))
        good_claims((FORK, 0, 1, 1), (), (), 1)
        self.assertEqual(told(), first)
        self.assertEqual(repr((game, mine, yours)), before)


if __name__ == "__main__":
    unittest.main()
