import unittest
from itertools import permutations

from plain_judge import FIELDS, FORK, SQUARE, all_fields, all_lines

from fieldclaim.changing import beside, essential, renamed, with_line, without_point
from fieldclaim.things import is_field

MEETING = (5, ((0, 1, 2), (2, 3, 4)))
NESTED = (5, ((0, 1), (0, 1, 2), (1, 2, 3, 4), (2, 3), (2, 4)))


class Changing(unittest.TestCase):
    # By repr, so that a list or a truth in the answer doesn't pass.
    def told(self, answer, field):
        self.assertEqual(repr(answer), repr(field))


class WithLine(Changing):
    def test_a_line_that_the_field_has(self):
        for field in FIELDS + (SQUARE, NESTED):
            for line in field[1]:
                self.told(with_line(field, line), field)

    def test_at_the_beginning_in_the_middle_and_at_the_end(self):
        self.told(with_line(MEETING, (0,)), (5, ((0,), (0, 1, 2), (2, 3, 4))))
        self.told(with_line(MEETING, (0, 1)), (5, ((0, 1), (0, 1, 2), (2, 3, 4))))
        self.told(with_line(MEETING, (0, 1, 2, 3, 4)), (5, ((0, 1, 2), (0, 1, 2, 3, 4), (2, 3, 4))))
        self.told(with_line(MEETING, (1,)), (5, ((0, 1, 2), (1,), (2, 3, 4))))
        self.told(with_line(MEETING, (2, 3)), (5, ((0, 1, 2), (2, 3), (2, 3, 4))))
        self.told(with_line(MEETING, (3, 4)), (5, ((0, 1, 2), (2, 3, 4), (3, 4))))
        self.told(with_line(MEETING, (4,)), (5, ((0, 1, 2), (2, 3, 4), (4,))))

    def test_the_first_line(self):
        self.told(with_line((1, ()), (0,)), (1, ((0,),)))
        self.told(with_line((9, ()), (3, 7)), (9, ((3, 7),)))

    def test_all_lines_of_small_fields(self):
        for field in all_fields(3, 7):
            for line in all_lines(3):
                told = with_line(field, line)
                self.told(told, (3, tuple(sorted({*field[1], line}))))
                self.assertTrue(is_field(told))

    def test_more_than_ten_lines(self):
        field = (4, ())
        for line in reversed(all_lines(4)):
            field = with_line(field, line)
        self.told(field, (4, tuple(all_lines(4))))


class WithoutPoint(Changing):
    def test_a_point_in_no_line(self):
        self.told(without_point((4, ((1, 2),)), 0), (4, ((1, 2),)))
        self.told(without_point((4, ((1, 2),)), 3), (4, ((1, 2),)))
        self.told(without_point((2, ()), 1), (2, ()))

    def test_a_point_in_some_lines(self):
        self.told(without_point(MEETING, 0), (5, ((2, 3, 4),)))
        self.told(without_point(MEETING, 4), (5, ((0, 1, 2),)))
        self.told(without_point(FORK, 1), (3, ((0, 2),)))
        self.told(without_point(SQUARE, 4), (9, ((0, 1, 2), (0, 3, 6), (2, 5, 8), (6, 7, 8))))

    def test_a_point_in_all_lines(self):
        self.told(without_point(MEETING, 2), (5, ()))
        self.told(without_point(FORK, 0), (3, ()))
        self.told(without_point((1, ((0,),)), 0), (1, ()))

    def test_all_points_of_small_fields(self):
        for field in all_fields(3, 7):
            for point in range(3):
                self.told(without_point(field, point), (3, tuple(line for line in field[1] if point not in line)))


class Beside(Changing):
    def test_lines_of_both(self):
        self.told(beside(FORK, FORK), (6, ((0, 1), (0, 2), (3, 4), (3, 5))))
        self.told(beside(MEETING, FORK), (8, ((0, 1, 2), (2, 3, 4), (5, 6), (5, 7))))
        self.told(beside(FORK, MEETING), (8, ((0, 1), (0, 2), (3, 4, 5), (5, 6, 7))))
        self.told(beside((2, ((1,),)), (1, ((0,),))), (3, ((1,), (2,))))

    def test_lines_of_one(self):
        self.told(beside(FORK, (2, ())), (5, ((0, 1), (0, 2))))
        self.told(beside((2, ()), FORK), (5, ((2, 3), (2, 4))))

    def test_no_lines(self):
        self.told(beside((2, ()), (3, ())), (5, ()))
        self.told(beside((9, ()), (9, ())), (18, ()))

    def test_two_fields_of_nine_points(self):
        rows = ((9, 10, 11), (9, 12, 15), (9, 13, 17), (10, 13, 16), (11, 13, 15), (11, 14, 17), (12, 13, 14))
        self.told(beside(SQUARE, SQUARE), (18, SQUARE[1] + rows + ((15, 16, 17),)))

    def test_three_fields(self):
        self.told(beside(beside(FORK, FORK), FORK), beside(FORK, beside(FORK, FORK)))
        self.assertEqual(beside(beside(SQUARE, SQUARE), SQUARE)[0], 27)

    def test_lines_rise(self):
        for one in all_fields(2, 3):
            for other in all_fields(3, 3):
                told = beside(one, other)
                self.assertTrue(is_field(told))
                moved = tuple(tuple(point + 2 for point in line) for line in other[1])
                self.told(told, (5, tuple(sorted(one[1] + moved))))


class Renamed(Changing):
    def test_numbers_that_stay(self):
        for field in FIELDS + (SQUARE, NESTED):
            self.told(renamed(field, tuple(range(field[0]))), field)

    def test_numbers_that_change_places(self):
        self.told(renamed(FORK, (2, 1, 0)), (3, ((0, 2), (1, 2))))
        self.told(renamed(FORK, (1, 2, 0)), (3, ((0, 1), (1, 2))))
        self.told(renamed(FORK, (2, 0, 1)), (3, ((0, 2), (1, 2))))
        self.told(renamed((4, ((0,), (0, 1, 3), (1, 2))), (3, 0, 2, 1)), (4, ((0, 1, 3), (0, 2), (3,))))
        self.told(renamed(MEETING, (4, 3, 2, 1, 0)), MEETING)

    def test_no_line(self):
        self.told(renamed((3, ()), (2, 0, 1)), (3, ()))

    def test_all_orders(self):
        for field in ((4, ((0, 1), (0, 2, 3), (1, 3), (2,))), (4, ((0,), (1,), (2,), (3,)))):
            for numbers in permutations(range(4)):
                lines = sorted(tuple(sorted(numbers[point] for point in line)) for line in field[1])
                self.told(renamed(field, numbers), (4, tuple(lines)))
                self.assertTrue(is_field(renamed(field, numbers)))
                back = tuple(numbers.index(point) for point in range(4))
                self.told(renamed(renamed(field, numbers), back), field)


class Essential(Changing):
    def test_lines_that_have_all_points_of_another(self):
        self.told(essential(NESTED), (5, ((0, 1), (2, 3), (2, 4))))
        self.told(essential((3, ((0,), (0, 1), (0, 1, 2), (1, 2)))), (3, ((0,), (1, 2))))
        self.told(essential((3, ((0, 1, 2), (1,)))), (3, ((1,),)))
        self.told(essential((4, ((0, 1, 2, 3), (0, 3)))), (4, ((0, 3),)))

    def test_chains(self):
        self.told(essential((4, ((0, 1, 2, 3), (1, 2, 3), (2, 3), (3,)))), (4, ((3,),)))
        self.told(essential((4, ((0,), (0, 1), (0, 1, 2), (0, 1, 2, 3)))), (4, ((0,),)))

    def test_all_lines_stay(self):
        for field in (FORK, MEETING, SQUARE, (3, ()), (3, ((0, 1), (0, 2), (1, 2))), (2, ((0,), (1,)))):
            self.told(essential(field), field)

    def test_all_fields_of_three_points(self):
        for field in all_fields(3, 7):
            kept = tuple(line for line in field[1] if not any(set(other) < set(line) for other in field[1]))
            self.told(essential(field), (3, kept))


if __name__ == "__main__":
    unittest.main()
