import unittest

from plain_judge import FIELDS, FORK, SQUARE, all_fields, games_of, plain_winner, tuples_in_order

from fieldclaim.handicaps import cover, curb, head_start
from fieldclaim.winning import winner, winner_from

SMALL = FIELDS + ((3, ()), (4, ((0,), (1,), (2,), (3,))), (4, ((0, 1, 2), (0, 1, 3), (0, 2, 3), (1, 2, 3))))
SIX = (
    (6, ((0, 1, 2), (0, 3, 4), (1, 3, 5), (2, 4, 5))),
    (6, ((0, 1, 2, 3), (2, 3, 4, 5), (0, 5))),
    (6, ((0, 2, 4), (1, 5), (3, 5), (4,))),
)


def first_of(many, enough):
    return next((points for points in tuples_in_order(many) if enough(points)), None)


def hits(points, lines):
    return all(set(points) & set(line) for line in lines)


class HeadStart(unittest.TestCase):
    def told(self, field, builds, guards):
        return [head_start((field, first, builds, guards)) for first in (0, 1)]

    def test_a_fork(self):
        self.assertEqual(self.told(FORK, 1, 1), [(), (0,)])
        self.assertEqual(self.told(FORK, 2, 1), [(), (0,)])
        self.assertEqual(self.told(FORK, 1, 2), [(0,), (0, 1)])

    def test_one_line(self):
        self.assertEqual(self.told((5, ((1, 2, 3, 4),)), 1, 1), [(1, 2, 3), (1, 2, 3, 4)])
        self.assertEqual(self.told((5, ((1, 2, 3, 4),)), 3, 1), [(1,), (1, 2, 3, 4)])
        self.assertEqual(self.told((4, ((2,),)), 1, 1), [(), (2,)])

    def test_fewer_points_are_less(self):
        self.assertEqual(self.told((6, ((0, 1, 2, 3), (4, 5))), 1, 1), [(4,), (4, 5)])
        self.assertEqual(self.told((6, ((0, 1, 2, 3), (5,))), 1, 1), [(), (5,)])

    def test_none_just_where_there_is_no_line(self):
        for field in SMALL:
            for game in games_of(field):
                self.assertEqual(head_start(game) is None, len(field[1]) == 0, game)
        for many in (1, 9):
            self.assertEqual(self.told((many, ()), 3, 1), [None, None])


class Curb(unittest.TestCase):
    def told(self, field, builds, guards):
        return [curb((field, first, builds, guards)) for first in (0, 1)]

    def test_a_fork(self):
        self.assertEqual(self.told(FORK, 1, 1), [(0,), ()])
        self.assertEqual(self.told(FORK, 2, 1), [(0,), ()])
        self.assertEqual(self.told(FORK, 1, 2), [(), ()])

    def test_lines_of_one_point(self):
        ones = (5, ((0,), (1,), (3,), (4,)))
        self.assertEqual(self.told(ones, 1, 1), [(0, 1, 3, 4), (0, 1, 3)])
        self.assertEqual(self.told(ones, 1, 3), [(0, 1, 3, 4), (0,)])

    def test_the_square(self):
        self.assertEqual(self.told(SQUARE, 1, 1), [(0,), ()])
        self.assertEqual(self.told(SQUARE, 3, 1), [(0, 4, 8), (0, 4)])

    def test_no_line(self):
        for game in games_of((4, ())):
            self.assertEqual(repr(curb(game)), "()")


class Cover(unittest.TestCase):
    def test_by_hand(self):
        self.assertEqual(cover(FORK), (0,))
        self.assertEqual(cover(SQUARE), (0, 4, 8))
        self.assertEqual(cover((5, ((0, 1, 2), (2, 3, 4)))), (2,))
        self.assertEqual(cover((4, ((0, 1), (2, 3)))), (0, 2))
        self.assertEqual(cover((4, ((1,), (3,)))), (1, 3))
        self.assertEqual(cover((9, ((8,),))), (8,))

    def test_fewer_points_are_less(self):
        self.assertEqual(cover((5, ((0, 1, 4), (2, 3, 4)))), (4,))
        self.assertEqual(cover((5, ((0, 4), (1, 4), (2, 3)))), (2, 4))

    def test_of_equally_many_points_the_first(self):
        self.assertEqual(cover((5, ((2, 3, 4),))), (2,))
        self.assertEqual(cover((5, ((0, 1), (1, 2), (2, 3), (3, 4)))), (1, 3))
        self.assertEqual(cover((6, ((0, 3), (0, 4), (3, 5), (4, 5)))), (0, 5))
        self.assertEqual(cover((4, ((0, 1), (0, 2), (1, 3), (2, 3)))), (0, 3))

    def test_no_line(self):
        for many in range(1, 10):
            self.assertEqual(repr(cover((many, ()))), "()")

    def test_by_going_through_all_tuples(self):
        for field in list(all_fields(3, 7)) + list(all_fields(4, 4)) + list(SMALL + SIX) + [SQUARE]:
            least = first_of(field[0], lambda points: hits(points, field[1]))
            self.assertEqual(repr(cover(field)), repr(least), field)

    def test_lines_of_five_points(self):
        for field in all_fields(5, 3):
            least = first_of(5, lambda points: hits(points, field[1]))
            self.assertEqual(cover(field), least, field)


class ByGoingThroughAllTuples(unittest.TestCase):
    def asked(self, game):
        many, whose = game[0][0], game[1]
        least = first_of(many, lambda points: winner_from(game, points, (), whose) == 0)
        self.assertEqual(repr(head_start(game)), repr(least), game)
        least = first_of(many, lambda points: winner_from(game, (), points, whose) == 1)
        self.assertEqual(repr(curb(game)), repr(least), game)

    def test_small_fields(self):
        for field in SMALL + SIX:
            for game in games_of(field):
                self.asked(game)

    def test_all_fields_of_three_points(self):
        for field in all_fields(3, 7):
            for game in games_of(field):
                self.asked(game)

    def test_the_square(self):
        for builds, guards in ((1, 1), (2, 1), (1, 2), (3, 2)):
            for first in (0, 1):
                self.asked((SQUARE, first, builds, guards))

    def test_by_the_second_judge(self):
        for field in SMALL:
            for game in games_of(field):
                many, whose = field[0], game[1]
                ahead = [first_of(many, lambda points: plain_winner(game, points, (), whose) == 0)]
                ahead += [first_of(many, lambda points: plain_winner(game, (), points, whose) == 1)]
                self.assertEqual([head_start(game), curb(game)], ahead, game)


class EnoughAndNoLess(unittest.TestCase):
    def lesser(self, points, many):
        return [other for other in tuples_in_order(many) if (len(other), other) < (len(points), points)]

    def test_points_ahead(self):
        for field in SMALL + SIX:
            for game in games_of(field):
                told = curb(game)
                self.assertEqual(winner_from(game, (), told, game[1]), 1)
                for points in self.lesser(told, field[0]):
                    self.assertEqual(winner_from(game, (), points, game[1]), 0)
                if field[1]:
                    told = head_start(game)
                    self.assertEqual(winner_from(game, told, (), game[1]), 0)
                    for points in self.lesser(told, field[0]):
                        self.assertEqual(winner_from(game, points, (), game[1]), 1)

    def test_none_ahead_where_the_hand_has_its_way(self):
        for field in SMALL + SIX:
            for game in games_of(field):
                self.assertEqual([head_start(game) == (), curb(game) == ()], [winner(game) == 0, winner(game) == 1])

    def test_covers(self):
        for field in SMALL + SIX:
            told = cover(field)
            self.assertTrue(hits(told, field[1]))
            for points in self.lesser(told, field[0]):
                self.assertFalse(hits(points, field[1]))


if __name__ == "__main__":
    unittest.main()
