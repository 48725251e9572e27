import unittest
from fractions import Fraction
from math import gcd

from plain_judge import FIELDS, FORK, SQUARE, all_fields, all_positions, guard_holds

from fieldclaim.weights import danger, heaviest, is_safe, pull
from fieldclaim.winning import winner

MEETING = (5, ((0, 1, 2), (2, 3, 4)))
MIXED = (5, ((0,), (0, 1, 2), (1, 2), (1, 2, 3, 4), (3, 4)))
SMALL = FIELDS + ((3, ()), MIXED)


def plain_weight(line, guards, mine, yours):
    if set(line) & set(yours):
        return Fraction(0)
    return Fraction(1, (guards + 1) ** len(set(line) - set(mine)))


def plain_danger(field, guards, mine, yours):
    return sum((plain_weight(line, guards, mine, yours) for line in field[1]), Fraction(0))


def plain_pull(field, guards, mine, yours, point):
    return plain_danger((field[0], [line for line in field[1] if point in line]), guards, mine, yours)


def plain_heaviest(field, guards, mine, yours):
    told = []
    while len(told) < guards:
        own = yours + tuple(told)
        free = [point for point in range(field[0]) if point not in mine + own]
        if not free:
            break
        told.append(min(free, key=lambda point: (-plain_pull(field, guards, mine, own, point), point)))
    return tuple(told)


def plain_safe(field, first, guards):
    heads = [()] if first == 1 else [(point,) for point in range(field[0])]
    return all(plain_danger(field, guards, mine, ()) < 1 for mine in heads)


class Fractions(unittest.TestCase):
    def is_told(self, told, fraction):
        self.assertEqual(repr(told), repr((fraction.numerator, fraction.denominator)))
        self.assertEqual(gcd(told[0], told[1]), 1)
        self.assertGreaterEqual(told[1], 1)


class Danger(Fractions):
    def test_at_the_beginning(self):
        self.assertEqual(danger(MEETING, 1, (), ()), (1, 4))
        self.assertEqual(danger(MEETING, 2, (), ()), (2, 27))
        self.assertEqual(danger(MEETING, 3, (), ()), (1, 32))
        self.assertEqual(danger(SQUARE, 1, (), ()), (1, 1))
        self.assertEqual(danger(SQUARE, 2, (), ()), (8, 27))
        self.assertEqual(danger(FORK, 3, (), ()), (1, 8))

    def test_lines_of_unlike_lengths(self):
        self.assertEqual(danger(MIXED, 1, (), ()), (19, 16))
        self.assertEqual(danger(MIXED, 2, (), ()), (49, 81))
        self.assertEqual(danger(MIXED, 3, (), ()), (101, 256))

    def test_lines_of_which_the_builder_has_some_points(self):
        self.assertEqual(danger(MEETING, 1, (2,), ()), (1, 2))
        self.assertEqual(danger(MEETING, 1, (0,), ()), (3, 8))
        self.assertEqual(danger(MEETING, 2, (2,), ()), (2, 9))
        self.assertEqual(danger(MEETING, 3, (0, 1), ()), (17, 64))

    def test_lines_of_which_the_builder_has_all_points(self):
        self.assertEqual(danger(MEETING, 1, (0, 1, 2), ()), (5, 4))
        self.assertEqual(danger(MEETING, 2, (0, 1, 2, 3, 4), ()), (2, 1))
        self.assertEqual(danger((1, ((0,),)), 3, (0,), ()), (1, 1))

    def test_lines_of_which_the_guard_has_a_point(self):
        self.assertEqual(danger(MEETING, 1, (), (0,)), (1, 8))
        self.assertEqual(danger(MEETING, 1, (0, 1), (2,)), (0, 1))
        self.assertEqual(danger(MEETING, 3, (3, 4), (1,)), (1, 4))
        self.assertEqual(danger(MEETING, 2, (), (0, 3)), (0, 1))

    def test_no_line(self):
        for guards in (1, 2, 3):
            for mine, yours in (((), ()), ((0,), ()), ((), (0,)), ((0,), (1,))):
                self.assertEqual(repr(danger((2, ()), guards, mine, yours)), "(0, 1)")

    def test_all_positions_of_small_fields(self):
        for field in SMALL:
            for mine, yours in all_positions(field[0]):
                for guards in (1, 2, 3):
                    self.is_told(danger(field, guards, mine, yours), plain_danger(field, guards, mine, yours))


class Pull(Fractions):
    def test_at_the_beginning(self):
        told = [pull(MEETING, 1, (), (), point) for point in range(5)]
        self.assertEqual(told, [(1, 8), (1, 8), (1, 4), (1, 8), (1, 8)])
        self.assertEqual([pull(FORK, 2, (), (), point) for point in range(3)], [(2, 9), (1, 9), (1, 9)])
        self.assertEqual(pull(SQUARE, 3, (), (), 4), (1, 16))
        told = [pull(MIXED, 1, (), (), point) for point in range(5)]
        self.assertEqual(told, [(5, 8), (7, 16), (7, 16), (5, 16), (5, 16)])

    def test_from_positions(self):
        self.assertEqual(pull(MEETING, 1, (2,), (), 0), (1, 4))
        self.assertEqual(pull(MEETING, 2, (0, 1), (), 2), (10, 27))
        self.assertEqual(pull(MEETING, 1, (0, 1), (3,), 2), (1, 2))
        self.assertEqual(pull(MEETING, 1, (0, 1), (3,), 4), (0, 1))
        self.assertEqual(pull(MEETING, 3, (0, 2, 3), (1,), 4), (1, 4))

    def test_points_of_no_line(self):
        for guards in (1, 2, 3):
            self.assertEqual(repr(pull((4, ((1, 2),)), guards, (), (), 0)), "(0, 1)")
            self.assertEqual(repr(pull((4, ()), guards, (2,), (1,), 0)), "(0, 1)")

    def test_all_positions_of_small_fields(self):
        for field in SMALL:
            for mine, yours in all_positions(field[0]):
                for point in set(range(field[0])) - {*mine, *yours}:
                    for guards in (1, 2, 3):
                        told = pull(field, guards, mine, yours, point)
                        self.is_told(told, plain_pull(field, guards, mine, yours, point))


class Heaviest(unittest.TestCase):
    def test_one_point(self):
        self.assertEqual(heaviest(MEETING, 1, (), ()), (2,))
        self.assertEqual(heaviest(SQUARE, 1, (), ()), (4,))
        self.assertEqual(heaviest(SQUARE, 1, (4,), ()), (0,))
        self.assertEqual(heaviest(MIXED, 1, (), ()), (0,))
        self.assertEqual(heaviest(MEETING, 1, (3, 4), (0,)), (2,))

    # Two lines of two points and one of three: weights 1/9, 1/9, 1/27, and 2/9 for point 3.
    def test_point_by_point(self):
        field = (6, ((0, 1, 2), (3, 4), (3, 5)))
        self.assertEqual(heaviest(field, 2, (), ()), (3, 0))
        self.assertEqual(heaviest(field, 3, (), ()), (3, 0, 1))
        self.assertEqual(heaviest(field, 2, (4,), ()), (3, 0))
        self.assertEqual(heaviest(field, 2, (3,), ()), (4, 5))
        self.assertEqual(heaviest(field, 3, (3,), ()), (4, 5, 0))

    def test_the_order_need_not_rise(self):
        self.assertEqual(heaviest((4, ((0, 1), (2, 3), (3,))), 3, (), ()), (3, 0, 1))
        self.assertEqual(heaviest((5, ((0, 1, 2), (1, 4), (3, 4), (4,))), 2, (), ()), (4, 0))
        self.assertEqual(heaviest((3, ((0, 1), (2,))), 2, (), ()), (2, 0))

    # Point 1 pulls more than point 4 at first, but nothing when point 0 is the guard's own.
    def test_former_points_count_as_the_guards(self):
        field = (6, ((0, 1), (0, 1, 2), (0, 1, 3), (4, 5)))
        self.assertEqual([pull(field, 2, (), (), point) for point in (0, 1, 4)], [(5, 27), (5, 27), (1, 9)])
        self.assertEqual(heaviest(field, 1, (), ()), (0,))
        self.assertEqual(heaviest(field, 2, (), ()), (0, 4))
        self.assertEqual(heaviest(field, 3, (), ()), (0, 4, 1))

    # With three at a time point 4 pulls 1/4, point 0 just 3/16; with one at a time 1/2 and 3/4.
    def test_the_order_hangs_on_guards(self):
        field = (6, ((0, 1), (0, 2), (0, 3), (1, 2), (4, 5)))
        self.assertEqual(heaviest(field, 1, (5,), ()), (0,))
        self.assertEqual(heaviest(field, 2, (5,), ()), (0, 4))
        self.assertEqual(heaviest(field, 3, (5,), ()), (4, 0, 1))

    def test_fewer_free_points(self):
        self.assertEqual(heaviest(FORK, 3, (1,), ()), (0, 2))
        self.assertEqual(heaviest(FORK, 3, (1,), (2,)), (0,))
        self.assertEqual(heaviest(FORK, 2, (0, 1), ()), (2,))
        self.assertEqual(heaviest((2, ((1,),)), 3, (), ()), (1, 0))

    def test_no_free_point(self):
        for guards in (1, 2, 3):
            self.assertEqual(repr(heaviest(FORK, guards, (0, 1), (2,))), "()")
            self.assertEqual(repr(heaviest((1, ()), guards, (), (0,))), "()")

    def test_pulls_alike(self):
        self.assertEqual(heaviest((4, ((0, 1), (2, 3))), 1, (), ()), (0,))
        self.assertEqual(heaviest((4, ((0, 1), (2, 3))), 2, (), ()), (0, 2))
        self.assertEqual(heaviest((4, ((0, 1), (2, 3))), 1, (0,), (1,)), (2,))
        self.assertEqual(heaviest((4, ((0, 1, 2, 3),)), 1, (0,), ()), (1,))

    def test_no_line_left(self):
        self.assertEqual(heaviest((5, ()), 3, (), ()), (0, 1, 2))
        self.assertEqual(heaviest((5, ()), 2, (0, 2), ()), (1, 3))
        self.assertEqual(heaviest(MEETING, 3, (), (2,)), (0, 1, 3))

    def test_all_positions_of_small_fields(self):
        for field in SMALL:
            for mine, yours in all_positions(field[0]):
                for guards in (1, 2, 3):
                    told = heaviest(field, guards, mine, yours)
                    self.assertEqual(repr(told), repr(plain_heaviest(field, guards, mine, yours)))


class IsSafe(unittest.TestCase):
    def told(self, answer, field, first, guards):
        self.assertIs(is_safe((field, first, 1, guards)), answer, (field, first, guards))

    def test_the_guard_begins(self):
        twos = ((0, 1), (0, 2), (0, 3), (1, 2), (1, 3))
        self.told(True, (4, twos[:3]), 1, 1)
        self.told(False, (4, twos[:4]), 1, 1)
        self.told(False, (4, twos), 1, 1)
        self.told(True, (4, twos[:4]), 1, 2)
        self.told(False, SQUARE, 1, 1)
        self.told(True, SQUARE, 1, 2)
        ones = tuple((point,) for point in range(5))
        for guards in (1, 2, 3):
            self.told(True, (5, ones[:guards]), 1, guards)
            self.told(False, (5, ones[: guards + 1]), 1, guards)
            self.told(False, (5, ones[: guards + 2]), 1, guards)

    def test_the_guard_begins_just_below_one_at_one_and_above(self):
        lines = ((0,), (1,), (2, 3), (2, 4), (2, 3, 4), (3, 4, 5), (0, 1, 2), (0, 1, 2, 3))
        for count, told in ((6, (26, 27)), (7, (1, 1)), (8, (82, 81))):
            field = (6, tuple(sorted(lines[:count])))
            self.assertEqual(danger(field, 2, (), ()), told)
            self.told(told[0] < told[1], field, 1, 2)

    def test_the_builder_begins(self):
        self.told(True, (4, ((0, 1), (2, 3))), 0, 1)
        self.told(False, FORK, 0, 1)
        self.told(True, FORK, 0, 2)
        self.told(False, (4, ((0, 1), (0, 2), (0, 3))), 0, 2)
        self.told(True, (4, ((0, 1), (0, 2), (0, 3))), 0, 3)
        self.told(False, (5, ((0, 1), (0, 2), (0, 3), (0, 4))), 0, 3)
        self.told(True, MEETING, 0, 1)

    def test_just_below_one_at_one_and_above(self):
        star = ((0, 1, 2), (0, 1, 5), (0, 2, 3), (0, 3, 4))
        round_of_three = (3, ((0, 1), (0, 2), (1, 2)))
        for field, guards, told in (
            ((6, star[:3]), 1, (3, 4)),
            ((6, star), 1, (1, 1)),
            (round_of_three, 1, (5, 4)),
            (round_of_three, 2, (7, 9)),
            ((6, ((0, 1), (0, 1, 3, 4), (0, 1, 4, 5), (0, 2), (0, 3, 4), (0, 3, 5))), 2, (26, 27)),
            ((4, ((0, 1), (0, 2), (0, 3))), 2, (1, 1)),
            ((5, ((0, 1), (0, 2), (0, 3), (1, 2, 3, 4))), 2, (82, 81)),
            ((6, ((0, 1), (0, 2), (0, 3, 4), (0, 3, 5), (0, 4, 5))), 3, (11, 16)),
        ):
            self.assertEqual(danger(field, guards, (0,), ()), told)
            self.told(told[0] < told[1], field, 0, guards)

    def test_only_the_last_point_is_unsafe(self):
        self.told(False, (4, ((0, 3), (1, 3))), 0, 1)
        self.told(False, (9, ((8,),)), 0, 3)

    def test_no_line(self):
        for first in (0, 1):
            for guards in (1, 2, 3):
                for many in (1, 4, 9):
                    self.told(True, (many, ()), first, guards)

    def test_a_line_of_one_point(self):
        for guards in (1, 2, 3):
            for field in ((1, ((0,),)), (4, ((2,),))):
                self.told(True, field, 1, guards)
                self.told(False, field, 0, guards)

    def test_all_fields_of_three_points(self):
        for field in all_fields(3, 7):
            for first in (0, 1):
                for guards in (1, 2, 3):
                    self.told(plain_safe(field, first, guards), field, first, guards)


class GuardThatClaimsWhatWeighsMost(unittest.TestCase):
    def holds(self, field, first, guards):
        def answer(mine, yours, point):
            return heaviest(field, guards, mine, yours)

        yours = tuple(sorted(heaviest(field, guards, (), ()))) if first == 1 else ()
        return guard_holds(field, answer, (), yours)

    def asked(self, fields):
        safe = 0
        for field in fields:
            for first in (0, 1):
                for guards in (1, 2, 3):
                    if is_safe((field, first, 1, guards)):
                        safe += 1
                        self.assertTrue(self.holds(field, first, guards), (field, first, guards))
                        self.assertEqual(winner((field, first, 1, guards)), 1, (field, first, guards))
        self.assertGreater(safe, 0)

    def test_all_fields_of_three_points(self):
        self.asked(all_fields(3, 7))

    def test_fields_of_four_points(self):
        self.asked(all_fields(4, 3))

    def test_greater_ones(self):
        row = (6, tuple((point, point + 1, point + 2) for point in range(4)))
        star = (7, ((0, 1, 2), (0, 3, 4), (0, 5, 6)))
        squares = (7, ((0, 1, 2, 3), (0, 2, 4, 6), (1, 3, 4, 5), (2, 3, 5, 6), (0, 4, 5)))
        self.asked(SMALL + (row, star, squares))

    def test_where_it_is_unsafe_the_guard_may_fail(self):
        self.assertFalse(self.holds(FORK, 0, 1))
        self.assertFalse(self.holds((2, ((0,), (1,))), 1, 1))


if __name__ == "__main__":
    unittest.main()
