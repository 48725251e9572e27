import unittest
from itertools import product

from plain_judge import FORK, SQUARE, all_fields, all_pairs_apart, all_positions, guard_holds, plain_pairings

from fieldclaim.pairings import is_pairing, pairing, partner, reply
from fieldclaim.winning import winner

TWO = (6, ((0, 1, 2), (2, 3, 4)))
APART = (4, ((0, 1), (2, 3)))
# Five rows, five columns and two slants: 24 of the 25 points stand in the pairs.
FIVES = (
    25,
    tuple(
        sorted(
            [tuple(range(5 * row, 5 * row + 5)) for row in range(5)]
            + [tuple(range(column, 25, 5)) for column in range(5)]
            + [tuple(range(0, 25, 6)), tuple(range(4, 21, 4))]
        )
    ),
)
# Fields with pairings, with idle points and odd counts of points among them.
PAIRED = (
    (1, ()),
    (3, ()),
    (2, ((0, 1),)),
    (3, ((0, 2),)),
    APART,
    (4, ((0, 1), (0, 1, 2), (1, 2, 3))),
    (5, ((0, 1, 2), (2, 3, 4))),
    (5, ((0, 1, 2, 3), (0, 1, 4), (1, 2, 3, 4))),
    TWO,
    (6, ((0, 1, 2), (0, 3, 4), (1, 3, 5))),
    (7, ((0, 1, 2, 3), (2, 3, 4), (4, 5, 6))),
)


def nested(thing, depth):
    for turn in range(depth):
        thing = (thing,)
    return thing


class IsPairing(unittest.TestCase):
    def told(self, answer, field, things):
        for thing in things:
            self.assertIs(is_pairing(field, thing), answer, (field, thing))

    def test_pairings(self):
        self.told(True, APART, [((0, 1), (2, 3))])
        self.told(True, TWO, [((0, 1), (2, 3)), ((0, 1), (3, 4)), ((0, 2), (3, 4)), ((1, 2), (3, 4))])
        self.told(True, (2, ((0, 1),)), [((0, 1),)])
        self.told(True, (4, ((0, 1), (0, 1, 2), (0, 1, 3))), [((0, 1),)])

    def test_pairs_that_could_be_left_out(self):
        self.told(True, (6, ((0, 1, 2),)), [((0, 1), (3, 4)), ((0, 2), (1, 5), (3, 4))])
        self.told(True, (4, ((0, 1, 2, 3),)), [((0, 1), (2, 3)), ((0, 3), (1, 2))])
        self.told(True, (4, ()), [((0, 1),), ((0, 1), (2, 3)), ((2, 3),)])

    def test_no_line(self):
        for many in (1, 2, 9):
            self.told(True, (many, ()), [()])
            self.told(False, (many, ()), [[], None, "", 0, False, ((),), ((0, many),)])

    def test_lines_without_a_pair(self):
        self.told(False, APART, [(), ((0, 1),), ((2, 3),), ((0, 2), (1, 3)), ((0, 3), (1, 2))])
        self.told(False, TWO, [((0, 1),), ((0, 1), (2, 5)), ((0, 3), (1, 4)), ((1, 2), (3, 5))])
        self.told(False, (3, ((0,), (0, 1))), [(), ((0, 1),), ((0, 2),)])

    def test_points_in_two_pairs(self):
        self.told(False, TWO, [((0, 2), (2, 3)), ((0, 1), (0, 2), (3, 4)), ((0, 1), (2, 3), (2, 4))])
        self.told(False, (3, ((0, 1),)), [((0, 1), (1, 2)), ((0, 1), (0, 2))])

    def test_pairs_that_are_none(self):
        self.told(False, APART, [((1, 0), (2, 3)), ((0, 1), (3, 2)), ((0, 0), (0, 1), (2, 3))])
        self.told(False, APART, [((0, 1), (2,)), ((0, 1), (2, 3), (3,)), ((0, 1, 2), (2, 3)), ((0, 1, 2, 3),)])
        self.told(False, (4, ((0, 1, 2),)), [((0, 1, 2),), ((0, 1), (2, 2)), ((0, 1), (3,)), ((), (0, 1))])
        self.told(False, (4, ()), [((1, 0),), ((1, 1),), ((1,),), ((1, 2, 3),), ((),), (0, 1), (0,)])

    def test_pairs_that_do_not_rise(self):
        self.told(False, APART, [((2, 3), (0, 1)), ((0, 1), (0, 1), (2, 3)), ((0, 1), (2, 3), (2, 3))])
        self.told(False, (4, ()), [((0, 1), (0, 1)), ((2, 3), (0, 1)), ((1, 3), (0, 2))])

    def test_points_beyond_the_field(self):
        self.told(False, APART, [((0, 1), (2, 3), (4, 5)), ((-2, -1), (0, 1), (2, 3))])
        self.told(False, (2, ()), [((0, 2),), ((-1, 0),), ((1, 2),), ((5, 9),)])

    def test_truths_for_points(self):
        self.told(False, (2, ((0, 1),)), [((False, True),), ((0, True),), ((False, 1),)])
        self.told(False, (3, ()), [((True, 2),), ((False, 2),), (True, 2), (True,)])

    def test_lists_for_tuples(self):
        self.told(False, (2, ((0, 1),)), [[(0, 1)], ([0, 1],), [[0, 1]]])
        self.told(False, APART, [[(0, 1), (2, 3)], ((0, 1), [2, 3]), ([0, 1], (2, 3)), ([0, 1], [2, 3])])

    def test_things_of_other_kinds(self):
        things = [0, 1, 2, -1, True, False, None, "", "01", "0 1", (None,), ("01",), (("0", "1"),), ((0, "1"),)]
        things += [((0, None),), ((0, 1), None), ((0, 1), 2), ((0, 1), "23"), (((0, 1), (2, 3)),), ((0, (1,)), (2, 3))]
        for depth in (1, 2, 3, 10, 30, 33):
            things += [nested((), depth), nested(0, depth), nested(None, depth), nested("", depth), nested([], depth)]
            things += [((0, 1), nested((2, 3), depth)), (nested(0, depth), nested(1, depth))]
        for field in (APART, (2, ((0, 1),)), (4, ())):
            self.told(False, field, things)

    def test_whole_pairing_handed_in_deeper(self):
        for depth in (1, 2, 30):
            self.told(False, APART, [nested(((0, 1), (2, 3)), depth)])

    def test_all_tuples_of_two_twos(self):
        numbers = (-1, 0, 1, 2, 3, True)
        twos = list(product(numbers, repeat=2))
        for field in ((3, ()), (3, ((0, 1, 2),)), (3, ((1, 2),)), (4, ((0, 1), (1, 2, 3)))):
            pairings = [repr(pairs) for pairs in plain_pairings(field)]
            for thing in [(two,) for two in twos] + list(product(twos, repeat=2)):
                self.assertIs(is_pairing(field, thing), repr(thing) in pairings, (field, thing))


class Pairing(unittest.TestCase):
    def asked(self, field):
        told = pairing(field)
        pairings = plain_pairings(field)
        if not pairings:
            self.assertIsNone(told, field)
            return
        self.assertIn(repr(told), [repr(pairs) for pairs in pairings], field)
        self.assertIs(is_pairing(field, told), True)
        for k in range(len(told)):
            self.assertNotIn(told[:k] + told[k + 1 :], pairings, field)
            self.assertIs(is_pairing(field, told[:k] + told[k + 1 :]), False)

    def test_by_hand(self):
        self.assertEqual(pairing((2, ((0, 1),))), ((0, 1),))
        self.assertEqual(pairing(APART), ((0, 1), (2, 3)))
        self.assertEqual(pairing((4, ((0, 1), (0, 1, 2), (0, 1, 2, 3)))), ((0, 1),))
        self.assertEqual(pairing((6, ((0, 5), (1, 2), (3, 4)))), ((0, 5), (1, 2), (3, 4)))

    def test_no_line(self):
        for many in range(1, 10):
            self.assertEqual(repr(pairing((many, ()))), "()")

    def test_lines_of_one_point(self):
        for field in ((1, ((0,),)), (3, ((1,),)), (4, ((0, 1), (2,))), (5, ((0, 1, 2), (1,), (3, 4))), (9, ((8,),))):
            self.assertIsNone(pairing(field))

    def test_none(self):
        for field in (FORK, SQUARE, (3, ((0, 1), (0, 2), (1, 2))), (5, ((0, 1, 2), (0, 3, 4), (1, 3), (2, 4)))):
            self.assertIsNone(pairing(field))
            self.asked(field)

    def test_all_fields_of_three_points(self):
        for field in all_fields(3, 7):
            self.asked(field)

    def test_fields_of_four_points(self):
        for field in all_fields(4, 4):
            self.asked(field)

    def test_fields_of_five_points(self):
        for field in all_fields(5, 3):
            if all(1 < len(line) < 5 for line in field[1]):
                self.asked(field)

    def test_greater_ones_judged(self):
        for field in PAIRED:
            self.asked(field)
            self.assertIsNotNone(pairing(field))
        self.asked((6, ((0, 1, 2), (0, 3, 4), (1, 3, 5), (2, 4, 5))))
        self.asked((7, ((0, 1, 3), (0, 2, 6), (0, 4, 5), (1, 2, 4), (1, 5, 6), (2, 3, 5), (3, 4, 6))))
        self.asked((8, ((0, 1, 2), (0, 4, 6, 7), (1, 3, 5, 7), (2, 4, 5), (3, 6))))

    # A pair that was found for one line alone may be idle when the pairs of longer ones are there.
    def test_no_pair_is_left_idle(self):
        for lines in (((0, 1, 2, 3), (0, 2, 3, 4)), ((0, 1, 2, 3), (0, 2, 3, 4), (5, 6)), ((0, 1, 3, 5), (1, 3, 4, 5))):
            self.asked((7, lines))
        for field in all_fields(6, 2):
            if all(len(line) > 3 for line in field[1]):
                self.asked((8, field[1] + ((6, 7),)))

    def test_one_pair_for_each_line(self):
        told = pairing(FIVES)
        self.assertEqual(len(told), 12)
        self.assertIs(is_pairing(FIVES, told), True)
        self.assertIs(is_pairing(FIVES, told[1:]), False)


class PartnerAndReply(unittest.TestCase):
    def test_partners(self):
        pairs = ((0, 4), (1, 2), (5, 7))
        told = [partner(pairs, point) for point in range(9)]
        self.assertEqual(told, [4, 2, 1, None, 0, 7, None, 5, None])

    def test_no_pairs(self):
        self.assertIsNone(partner((), 0))
        self.assertIsNone(partner((), 8))

    def test_the_partner_is_free(self):
        pairs = ((0, 4), (2, 3))
        self.assertEqual(reply((6, ()), pairs, (0,), (), 0), 4)
        self.assertEqual(reply((6, ()), pairs, (4,), (), 4), 0)
        self.assertEqual(repr(reply((6, ()), pairs, (1, 4), (2,), 4)), "0")
        self.assertEqual(reply((6, ()), pairs, (0, 2), (1, 4), 2), 3)

    def test_somebody_has_the_partner(self):
        pairs = ((0, 4), (2, 3))
        self.assertEqual(reply((6, ()), pairs, (4,), (0,), 4), 1)
        self.assertEqual(reply((6, ()), pairs, (0, 4), (1,), 4), 2)
        self.assertEqual(reply((6, ()), pairs, (0, 1, 2), (3,), 2), 4)

    def test_a_point_in_no_pair(self):
        pairs = ((0, 4), (2, 3))
        self.assertEqual(repr(reply((6, ()), pairs, (1,), (), 1)), "0")
        self.assertEqual(reply((6, ()), pairs, (0, 5), (4,), 5), 1)
        self.assertEqual(reply((3, ()), (), (0,), (1,), 0), 2)

    def test_no_point_is_free(self):
        self.assertIsNone(reply((1, ()), (), (0,), (), 0))
        self.assertIsNone(reply((2, ((0, 1),)), ((0, 1),), (0,), (1,), 0))
        self.assertIsNone(reply((3, ()), ((0, 1),), (0, 2), (1,), 2))

    def test_all_positions(self):
        for pairs in all_pairs_apart(5):
            for mine, yours in all_positions(5):
                free = [point for point in range(5) if point not in mine + yours]
                for point in mine:
                    others = [sum(pair) - point for pair in pairs if point in pair]
                    kept = [other for other in others if other in free] + free + [None]
                    self.assertEqual(reply((5, ()), pairs, mine, yours, point), kept[0])


class GuardThatReplies(unittest.TestCase):
    def held(self, field, pairs, yours):
        def answer(mine, yours, point):
            told = reply(field, pairs, mine, yours, point)
            return () if told is None else (told,)

        return guard_holds(field, answer, (), yours)

    # The guard begins with any point there is.
    def holds(self, field, pairs):
        for yours in [()] + [(point,) for point in range(field[0])]:
            self.assertTrue(self.held(field, pairs, yours), (field, pairs, yours))

    def test_the_pairs_told(self):
        for field in PAIRED:
            self.holds(field, pairing(field))

    def test_all_pairings_of_small_fields(self):
        for field in PAIRED[:8]:
            for pairs in plain_pairings(field):
                self.holds(field, pairs)

    def test_fields_of_four_points(self):
        for field in all_fields(4, 3):
            told = pairing(field)
            if told is not None:
                self.holds(field, told)

    def test_the_guard_has_its_way(self):
        for field in PAIRED + tuple(all_fields(4, 3)):
            if pairing(field) is not None:
                self.assertEqual([winner((field, first, 1, 1)) for first in (0, 1)], [1, 1], field)

    def test_pairs_that_are_no_pairing_do_not_hold(self):
        self.assertFalse(self.held(FORK, ((0, 1),), ()))
        self.assertFalse(self.held(APART, ((0, 2), (1, 3)), ()))


if __name__ == "__main__":
    unittest.main()
