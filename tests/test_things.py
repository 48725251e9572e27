import unittest
from copy import deepcopy
from itertools import combinations, product

from fieldclaim.things import is_field, is_game

PLAIN = (5, ((0, 1, 2), (2, 3, 4)))
# Things that are never a whole number of the document.
NO_NUMBERS = (True, False, None, "", "1", "0", (), (1,), (0,), [], [1])


def all_lines(many):
    return sorted(line for size in range(1, many + 1) for line in combinations(range(many), size))


def nested(thing, depth, kind):
    for step in range(depth):
        thing = kind((thing,))
    return thing


def deep_things():
    seeds = (0, 1, True, None, "", "text", (), [], PLAIN, (PLAIN, 0, 1, 1))
    things = [nested(seed, depth, kind) for seed in seeds for depth in (5, 29, 30, 31) for kind in (tuple, list)]
    for seed in seeds:
        pair = seed
        for step in range(30):
            pair = (1, pair) if step % 2 else (1, [pair])
        things.append(pair)
    return things


def no_tuples():
    return [0, 1, 5, -1, 10 ** 30, True, False, None, "", "5 :", "5 : 0 1 2 , 2 3 4", [], [5, ()], ["5", ":"]]


class Things(unittest.TestCase):
    def is_one(self, asked, thing):
        self.assertIs(asked(thing), True, repr(thing))

    def is_none(self, asked, thing):
        self.assertIs(asked(thing), False, repr(thing))


class Fields(Things):
    def is_a_field(self, thing):
        self.is_one(is_field, thing)

    def is_no_field(self, thing):
        self.is_none(is_field, thing)

    def test_every_number_of_points_and_lines(self):
        for many in range(1, 10):
            lines = all_lines(many)
            for size in range(min(10, len(lines)) + 1):
                self.is_a_field((many, tuple(lines[:size])))
                self.is_a_field((many, tuple(lines[len(lines) - size :])))

    def test_lines_of_every_length(self):
        for many in range(1, 10):
            for line in all_lines(many):
                self.is_a_field((many, (line,)))

    def test_a_shorter_line_before_and_behind_a_longer_one(self):
        self.is_a_field((3, ((0,), (0, 1), (0, 1, 2))))
        self.is_a_field((3, ((0, 1, 2), (1,), (1, 2), (2,))))

    def test_no_points_or_ten(self):
        for many in (0, 10, 11, -1, -9, 10 ** 30):
            self.is_no_field((many, ()))
        self.is_no_field((0, ((0,),)))
        self.is_no_field((10, ((0, 9),)))
        self.is_no_field((-1, ((-2,),)))

    def test_no_number_of_points(self):
        for many in NO_NUMBERS:
            self.is_no_field((many, ()))
            self.is_no_field((many, ((0,),)))

    def test_too_few_or_too_many_parts(self):
        for thing in ((), (5,), ((),), (5, (), ()), (5, (), None), (5, ((0,),), ((1,),)), PLAIN + (1,), (PLAIN,)):
            self.is_no_field(thing)

    def test_a_list_anywhere(self):
        self.is_a_field((5, ((0, 1), (2,))))
        for thing in (
            [5, ((0, 1), (2,))],
            ([5], ((0, 1), (2,))),
            (5, [(0, 1), (2,)]),
            (5, ([0, 1], (2,))),
            (5, ((0, 1), [2])),
            (5, ([0, 1], [2])),
            (5, ((0, [1]), (2,))),
            (5, ((0, 1), ([2],))),
            (5, []),
            (5, ([],)),
            [5, [[0, 1], [2]]],
        ):
            self.is_no_field(thing)

    def test_lines_that_are_no_tuple(self):
        for lines in (0, 1, True, False, None, "", "0", "0 1 2"):
            self.is_no_field((5, lines))
            self.is_no_field((5, (lines,)))
            self.is_no_field((5, ((0,), lines)))

    def test_eleven_lines(self):
        for many in range(4, 10):
            lines = tuple(all_lines(many))
            self.is_a_field((many, lines[:10]))
            self.is_no_field((many, lines[:11]))
            self.is_no_field((many, lines[:12]))

    def test_an_empty_line(self):
        for lines in (((),), ((), (0,)), ((0,), ()), ((), ())):
            self.is_no_field((5, lines))

    def test_a_point_beyond_the_field(self):
        for many in range(1, 10):
            self.is_a_field((many, ((many - 1,),)))
            for point in (many, many + 1, 10 ** 30):
                self.is_no_field((many, ((point,),)))
                self.is_no_field((many, ((0, point),)))
                self.is_no_field((many, ((0,), (point,))))

    def test_a_point_below_0(self):
        for point in (-1, -2, -(10 ** 30)):
            self.is_no_field((5, ((point,),)))
            self.is_no_field((5, ((point, 0),)))
            self.is_no_field((5, ((point,), (0,))))

    def test_a_point_twice_in_a_line(self):
        for line in ((0, 0), (0, 0, 1), (0, 1, 1), (0, 1, 0), (2, 2), (4, 4, 4)):
            self.is_no_field((5, (line,)))

    def test_a_falling_line(self):
        for line in ((1, 0), (0, 2, 1), (1, 0, 2), (4, 3, 2, 1, 0), (1, 2, 3, 0)):
            self.is_no_field((5, (line,)))
        self.is_no_field((5, ((0,), (2, 1))))

    def test_lines_that_do_not_rise(self):
        for lines in (
            ((1,), (0,)),
            ((0, 1), (0,)),
            ((1,), (0, 1, 2)),
            ((0,), (2,), (1,)),
            ((1,), (0,), (2,)),
            ((2, 3, 4), (0, 1, 2)),
        ):
            self.is_no_field((5, lines))

    def test_a_line_twice(self):
        for lines in (((0,), (0,)), ((0, 1), (0, 1)), ((0,), (1,), (1,)), ((0,), (1,), (0,))):
            self.is_no_field((5, lines))

    def test_a_point_that_is_no_number(self):
        for point in NO_NUMBERS:
            for line in ((point,), (0, point), (point, 2), (0, point, 2)):
                self.is_no_field((5, (line,)))
                self.is_no_field((5, ((0,), line)))
                self.is_no_field((5, (line, (4,))))

    def test_no_tuples_and_nested_things(self):
        for thing in no_tuples() + deep_things():
            self.is_no_field(thing)

    def test_nested_things_in_each_place(self):
        for thing in deep_things():
            self.is_no_field((thing, ((0,),)))
            self.is_no_field((5, thing))
            self.is_no_field((5, ((0,), thing)))
            self.is_no_field((5, ((0, thing),)))

    def test_just_the_fields_among_many_small_things(self):
        # By their writing in Python, because True equals 1 there.
        fields = {
            repr((many, lines))
            for many in (1, 2)
            for size in range(3)
            for lines in combinations(all_lines(many), size)
        }
        points = (-1, 0, 1, 2, True, False, None, "0", (0,))
        lines = [line for size in range(3) for line in product(points, repeat=size)] + [[0], [0, 1], 0, None]
        things = [
            (many, some)
            for many in (-1, 0, 1, 2, True, None, "1")
            for size in range(3)
            for some in product(lines, repeat=size)
        ]
        told = {repr(thing) for thing in things if is_field(thing)}
        self.assertEqual(told, fields)


class Games(Things):
    def is_a_game(self, thing):
        self.is_one(is_game, thing)

    def is_no_game(self, thing):
        self.is_none(is_game, thing)

    def test_either_hand_beginning_and_all_counts(self):
        for field in (PLAIN, (1, ()), (1, ((0,),)), (9, tuple(all_lines(9)[:10]))):
            for first, builds, guards in product((0, 1), (1, 2, 3), (1, 2, 3)):
                self.is_a_game((field, first, builds, guards))

    def test_first_beyond_its_bounds(self):
        for first in (-1, 2, 3, 10 ** 30):
            self.is_no_game((PLAIN, first, 1, 1))

    def test_builds_and_guards_beyond_their_bounds(self):
        for count in (-1, 0, 4, 5, 10 ** 30):
            self.is_no_game((PLAIN, 0, count, 1))
            self.is_no_game((PLAIN, 1, count, 3))
            self.is_no_game((PLAIN, 0, 1, count))
            self.is_no_game((PLAIN, 1, 3, count))

    def test_no_number_in_the_place_of_one(self):
        for thing in NO_NUMBERS:
            self.is_no_game((PLAIN, thing, 1, 1))
            self.is_no_game((PLAIN, 0, thing, 1))
            self.is_no_game((PLAIN, 0, 1, thing))

    def test_too_few_or_too_many_parts(self):
        game = (PLAIN, 0, 1, 1)
        self.is_a_game(game)
        for size in range(4):
            self.is_no_game(game[:size])
        for more in (0, 1, None, (), PLAIN):
            self.is_no_game(game + (more,))
        self.is_no_game(PLAIN)
        self.is_no_game(PLAIN + (0, 1, 1))
        self.is_no_game((game,))

    def test_a_list_in_the_place_of_a_tuple(self):
        self.is_no_game([PLAIN, 0, 1, 1])
        self.is_no_game((list(PLAIN), 0, 1, 1))
        self.is_no_game(((5, [(0, 1)]), 0, 1, 1))
        self.is_no_game(((5, ([0, 1],)), 0, 1, 1))

    def test_no_field_in_the_place_of_the_field(self):
        fields = [(0, ()), (10, ()), (5, ((),)), (5, ((5,),)), (5, ((1, 0),)), (5, ((1,), (0,))), (5, ((True,),))]
        fields += [(True, ()), (5,), (5, (), ()), (PLAIN, 0, 1, 1), (), (9, tuple(all_lines(9)[:11]))]
        for field in fields + no_tuples() + deep_things():
            self.is_no_game((field, 0, 1, 1))

    def test_no_tuples_and_nested_things(self):
        for thing in no_tuples() + deep_things():
            self.is_no_game(thing)
        for thing in deep_things():
            self.is_no_game((PLAIN, thing, 1, 1))
            self.is_no_game((PLAIN, 0, thing, 1))
            self.is_no_game((PLAIN, 0, 1, thing))


class Asked(Things):
    def test_what_is_handed_in_stays_and_the_same_is_told_again(self):
        lists = [[5, [[0, 1], [2]]], (5, [(1,), (0,)]), (5, ([2, 1, 0],)), [PLAIN, 0, 1, 1], ([5, []], 0, 1, 1)]
        things = lists + [PLAIN, (PLAIN, 0, 1, 1)] + no_tuples() + deep_things()
        before = deepcopy(things)
        told = [(is_field(thing), is_game(thing)) for thing in things]
        self.assertEqual(repr(things), repr(before))
        again = [(is_field(thing), is_game(thing)) for thing in reversed(things)]
        self.assertEqual(again[::-1], told)
        self.assertEqual(told[5:7], [(True, False), (False, True)])


if __name__ == "__main__":
    unittest.main()
