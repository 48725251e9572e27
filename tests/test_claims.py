import unittest

from plain_judge import all_counts, all_lines, all_positions, plain_behind, plain_claims, plain_decided

from fieldclaim.claims import claimed, claims, decided
from fieldclaim.errors import FieldError, NoClaim, NoText

PLAIN = (5, ((0, 1, 2), (2, 3, 4)))


class Claims(unittest.TestCase):
    def told(self, builds, guards, mine, yours, whose):
        return claims((PLAIN, 0, builds, guards), mine, yours, whose)

    def test_one_at_a_time(self):
        self.assertEqual(self.told(1, 1, (), (), 0), ((0,), (1,), (2,), (3,), (4,)))
        self.assertEqual(self.told(1, 1, (1,), (3,), 1), ((0,), (2,), (4,)))

    def test_builds_and_guards_unlike(self):
        self.assertEqual(self.told(2, 1, (1,), (3,), 0), ((0, 2), (0, 4), (2, 4)))
        self.assertEqual(self.told(2, 1, (1,), (3,), 1), ((0,), (2,), (4,)))
        self.assertEqual(self.told(1, 3, (1,), (), 1), ((0, 2, 3), (0, 2, 4), (0, 3, 4), (2, 3, 4)))
        self.assertEqual(self.told(1, 3, (1,), (), 0), ((0,), (2,), (3,), (4,)))

    def test_as_many_free_as_are_claimed(self):
        self.assertEqual(self.told(3, 2, (0,), (4,), 0), ((1, 2, 3),))
        self.assertEqual(self.told(3, 2, (0, 2), (4,), 1), ((1, 3),))

    def test_fewer_free_than_are_claimed(self):
        self.assertEqual(self.told(3, 2, (0, 2), (4,), 0), ((1, 3),))
        self.assertEqual(self.told(2, 3, (0, 2, 3), (4,), 0), ((1,),))
        self.assertEqual(self.told(2, 3, (0, 2, 3), (4,), 1), ((1,),))

    def test_none_free(self):
        for whose in (0, 1):
            for builds, guards in all_counts():
                self.assertEqual(self.told(builds, guards, (0, 2, 3), (1, 4), whose), ((),))
                self.assertEqual(self.told(builds, guards, (0, 1, 2, 3, 4), (), whose), ((),))

    def test_whoever_began(self):
        for whose in (0, 1):
            self.assertEqual(claims((PLAIN, 0, 2, 1), (0,), (), whose), claims((PLAIN, 1, 2, 1), (0,), (), whose))

    def test_all_positions_of_small_fields(self):
        for many in (1, 2, 3, 5):
            for mine, yours in all_positions(many):
                for builds, guards in all_counts():
                    game = ((many, ((0,),)), 0, builds, guards)
                    for whose in (0, 1):
                        told = claims(game, mine, yours, whose)
                        self.assertEqual(repr(told), repr(tuple(plain_claims(game, mine, yours, whose))))
                        self.assertEqual(list(told), sorted(told))

    def test_more_points_and_at_a_time(self):
        game = ((13, ((0, 12),)), 0, 3, 4)
        for whose in (0, 1):
            self.assertEqual(claims(game, (3, 11), (12,), whose), tuple(plain_claims(game, (3, 11), (12,), whose)))


class Claimed(unittest.TestCase):
    def refused(self, game, mine, yours, whose, claim):
        with self.assertRaises(NoClaim, msg=repr((game, mine, yours, whose, claim))):
            claimed(game, mine, yours, whose, claim)

    def test_the_pair_behind_a_claim(self):
        game = (PLAIN, 0, 2, 1)
        self.assertEqual(claimed(game, (1,), (3,), 0, (0, 4)), ((0, 1, 4), (3,)))
        self.assertEqual(claimed(game, (1,), (3,), 1, (0,)), ((1,), (0, 3)))
        self.assertEqual(claimed(game, (), (), 0, (2, 3)), ((2, 3), ()))
        self.assertEqual(claimed(game, (), (), 1, (2,)), ((), (2,)))
        self.assertEqual(claimed(game, (0, 1, 2), (4,), 0, (3,)), ((0, 1, 2, 3), (4,)))

    def test_the_empty_claim_where_none_is_free(self):
        for whose in (0, 1):
            self.assertEqual(claimed((PLAIN, 0, 2, 1), (0, 2, 3), (1, 4), whose, ()), ((0, 2, 3), (1, 4)))
            self.refused((PLAIN, 0, 2, 1), (0, 2, 3), (1, 4), whose, (0,))

    def test_too_few_or_too_many_points(self):
        for claim in ((), (0,), (0, 1, 2), (0, 1, 2, 3, 4)):
            self.refused((PLAIN, 0, 2, 2), (), (), 0, claim)
            self.refused((PLAIN, 0, 2, 2), (), (), 1, claim)
        self.refused((PLAIN, 0, 2, 1), (), (), 1, (0, 1))
        self.refused((PLAIN, 0, 2, 1), (), (), 0, (0,))
        self.refused((PLAIN, 0, 3, 1), (0, 1), (2,), 0, (3,))
        self.refused((PLAIN, 0, 3, 1), (0, 1), (2,), 0, (2, 3, 4))

    def test_a_point_that_somebody_has(self):
        for point in (1, 3):
            self.refused((PLAIN, 0, 1, 1), (1,), (3,), 0, (point,))
            self.refused((PLAIN, 0, 1, 1), (1,), (3,), 1, (point,))
        for claim in ((0, 1), (1, 2), (0, 3), (1, 3), (3, 4)):
            self.refused((PLAIN, 0, 2, 2), (1,), (3,), 0, claim)
            self.refused((PLAIN, 0, 2, 2), (1,), (3,), 1, claim)

    def test_a_point_twice_and_points_that_fall(self):
        for claim in ((0, 0), (4, 4), (1, 0), (4, 0), (3, 2)):
            self.refused((PLAIN, 0, 2, 2), (), (), 0, claim)
            self.refused((PLAIN, 0, 2, 2), (), (), 1, claim)
        for claim in ((0, 0, 1), (0, 1, 1), (0, 2, 1), (2, 1, 0), (1, 0, 2)):
            self.refused((PLAIN, 0, 3, 3), (), (), 0, claim)
            self.refused((PLAIN, 0, 3, 3), (), (), 1, claim)

    def test_a_point_beyond_the_field(self):
        for whose in (0, 1):
            for claim in ((5,), (-1,), (6,), (10 ** 30,)):
                self.refused((PLAIN, 0, 1, 1), (), (), whose, claim)
            for claim in ((0, 5), (-1, 0), (4, 5), (5, 6)):
                self.refused((PLAIN, 0, 2, 2), (), (), whose, claim)

    def test_the_empty_claim_where_points_are_free(self):
        for whose in (0, 1):
            self.refused((PLAIN, 0, 1, 1), (), (), whose, ())
            self.refused((PLAIN, 0, 3, 3), (0, 1), (2, 3), whose, ())

    def test_all_claims_of_all_positions_of_a_small_field(self):
        tried = [()] + all_lines(4) + [(1, 0), (0, 0), (4,), (0, 4), (-1,), (2, 1, 0)]
        for mine, yours in all_positions(4):
            for builds, guards in all_counts():
                game = ((4, ((0, 1), (2, 3))), 0, builds, guards)
                for whose in (0, 1):
                    there = plain_claims(game, mine, yours, whose)
                    for claim in tried:
                        if claim in there:
                            told = claimed(game, mine, yours, whose, claim)
                            self.assertEqual(repr(told), repr(plain_behind(mine, yours, whose, claim)))
                        else:
                            self.refused(game, mine, yours, whose, claim)

    def test_the_refusal_is_taken_by_those_above_and_is_no_no_text(self):
        for error in (NoClaim, FieldError, ValueError):
            with self.assertRaises(error):
                claimed((PLAIN, 0, 1, 1), (), (), 0, (5,))
        try:
            claimed((PLAIN, 0, 1, 1), (), (), 0, ())
        except FieldError as e:
            self.assertNotIsInstance(e, NoText)


class Decided(unittest.TestCase):
    def told(self, lines, mine, yours):
        return decided(((5, lines), 0, 1, 1), mine, yours)

    def test_for_the_builder(self):
        for mine in ((0, 1, 2), (2, 3, 4), (0, 1, 2, 3), (0, 1, 2, 3, 4)):
            self.assertEqual(self.told(PLAIN[1], mine, ()), 0)
        self.assertEqual(self.told(PLAIN[1], (0, 1, 2), (3, 4)), 0)

    def test_for_the_guard(self):
        for yours in ((2,), (0, 3), (1, 4), (0, 1, 3), (0, 1, 2, 3, 4)):
            self.assertEqual(self.told(PLAIN[1], (), yours), 1)
        self.assertEqual(self.told(PLAIN[1], (0, 1, 3, 4), (2,)), 1)

    def test_not_yet(self):
        for mine, yours in (((), ()), ((0, 1), ()), ((0, 1, 3, 4), ()), ((), (0, 1)), ((2, 3), (0,)), ((2,), (3, 4))):
            self.assertIs(self.told(PLAIN[1], mine, yours), None)

    def test_without_lines(self):
        for mine, yours in (((), ()), ((0,), ()), ((), (0,)), ((0, 1, 2, 3, 4), ())):
            self.assertEqual(self.told((), mine, yours), 1)

    def test_a_line_of_one_point(self):
        self.assertIs(self.told(((3,),), (), ()), None)
        self.assertIs(self.told(((3,),), (0, 1), (2, 4)), None)
        self.assertEqual(self.told(((3,),), (3,), ()), 0)
        self.assertEqual(self.told(((3,),), (), (3,)), 1)

    def test_all_positions_of_small_fields(self):
        fields = [(4, (one, other)) for one in all_lines(4) for other in all_lines(4) if one < other]
        for field in fields:
            for mine, yours in all_positions(4):
                game = (field, 1, 2, 3)
                self.assertEqual(repr(decided(game, mine, yours)), repr(plain_decided(game, mine, yours)))

    def test_more_points_and_lines(self):
        lines = tuple((point, point + 1) for point in range(12))
        game = ((13, lines), 0, 1, 1)
        self.assertEqual(decided(game, (11, 12), (0,)), 0)
        self.assertEqual(decided(game, (0,), (1, 3, 5, 7, 9, 11)), 1)
        self.assertIs(decided(game, (0,), (1, 3, 5, 7, 9)), None)


class Asked(unittest.TestCase):
    def test_what_is_handed_in_stays_and_the_same_is_told_again(self):
        game, mine, yours = (PLAIN, 0, 2, 1), (1,), (3,)
        before = repr((game, mine, yours))

        def told():
            return (claims(game, mine, yours, 0), claimed(game, mine, yours, 0, (0, 4)), decided(game, mine, yours))

        first = told()
        claims((PLAIN, 1, 3, 3), (), (), 1)
        self.assertEqual(told(), first)
        self.assertEqual(repr((game, mine, yours)), before)


if __name__ == "__main__":
    unittest.main()
