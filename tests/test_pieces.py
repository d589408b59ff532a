import itertools
import random
import unittest
from itertools import combinations_with_replacement

from closedroads.pieces import crossing, is_crossing, is_made, making, middles, worst_costs
from closedroads.steady import level
from closedroads.webs import Web
from tests.making_read import is_right, made_at_random
from tests.own import own_crossings, own_is_made, own_price, own_ways
from tests.samples import Agreeing, Touchy, cross, crossed_webs, made_webs, odd_values, roads_of, sample_webs, twins

PIECE = ((), (0,), (1,), (2,), (3,), (4,), ())


def block():
    return Web("a", "e", roads_of("ab ab be ae bd de", ((1, 1), (2, 2), (0, 3), (9, 0), (0, 1), (1, 1))))


def web_of(origin, goal, ends):
    """The web with these ends of roads; None if some road lies on no way."""
    try:
        return Web(origin, goal, tuple([(x, y, 1, 1) for x, y in ends]))
    except ValueError:
        return None


def small_webs(places, most):
    """All webs on these places from the first to the last one, but for the order of the roads."""
    links = [(x, y) for x in places for y in places if x < y]
    for many in range(1, most + 1):
        for ends in combinations_with_replacement(links, many):
            web = web_of(places[0], places[-1], ends)
            if web is not None:
                yield web


def random_webs(many, seed):
    """So many webs of five to eight roads."""
    chance = random.Random(seed)
    found = []
    while len(found) < many:
        places = "abcdefg"[:chance.randint(4, 7)]
        origin, goal = chance.sample(places, 2)
        ends = [tuple(sorted(chance.sample(places, 2))) for _ in range(chance.randint(5, 8))]
        web = web_of(origin, goal, ends)
        if web is not None:
            found.append(web)
    return found


class Examples(unittest.TestCase):
    def test_the_examples(self):
        told = [is_made(cross()), making(cross()), making(twins()), making(block()), crossing(block())]
        self.assertEqual(told, [False, None, "[0 1]", "[([0 1] [2 (4 5)]) 3]", None])
        self.assertEqual([middles(cross()), is_crossing(cross(), PIECE)], [(2,), True])
        told = [worst_costs(twins()), worst_costs(cross())[1], level(worst_costs(cross())[0], (6, 1))]
        self.assertEqual(told, [None, 2, (92, 1)])
        self.assertIs(is_crossing(cross(), ((), (1,), (0,), (2,), (4,), (3,), ())), True)

    def test_the_examples_in_the_text(self):
        self.assertEqual(making(Web("a", "c", roads_of("ab ab bc", ((1, 1),) * 3))), "([0 1] 2)")
        self.assertEqual(making(Web("a", "c", roads_of("ab ab bc ac", ((1, 1),) * 4))), "[([0 1] 2) 3]")

    def test_by_name(self):
        for call in (is_made, making, crossing, middles):
            self.assertEqual(call(web=cross()), call(cross()))
            self.assertEqual(call(web=block()), call(block()))
        self.assertIs(is_crossing(piece=PIECE, web=cross()), True)
        self.assertEqual(worst_costs(web=cross())[1], 2)

    def test_asked_twice_and_of_webs_made_anew(self):
        for web in sample_webs():
            text = str(web)
            for call in (is_made, making, crossing, middles):
                first = call(web)
                self.assertEqual(call(web), first)
                self.assertEqual(call(Web.told(text)), first)
            worst = worst_costs(web)
            self.assertEqual(worst_costs(Web.told(text)), worst)
            self.assertEqual(str(web), text)


class Makings(unittest.TestCase):
    def test_webs_put_together_by_the_test(self):
        for seed in range(800):
            web, text = made_at_random(seed)
            with self.subTest(str(web)):
                self.assertEqual(making(web), text)
                self.assertTrue(is_right(web, making(web)))
                self.assertEqual((is_made(web), crossing(web), middles(web)), (True, None, ()))
                self.assertIsNone(worst_costs(web))

    def test_worked_out_by_hand(self):
        told = [
            "0", "[0 1]", "(0 1)", "[0 1 2]", "([1 2] 0)", "[0 (1 2)]", "([0 2] [1 3])", "[([0 1] 2) 3]",
            "[(1 0) (2 3)]", "[(0 1 2 3) 4]", "[([0 1] [2 (4 5)]) 3]", "[([0 2] [1 3]) 4 (5 6)]",
            "([0 4] [1 5] [2 6] [3 7])", "[0 1 2 3 4 5 6 7]", "(0 1 2 3 4 5 6 7)",
            "[(1 [0 ([3 4] 2)]) 5 (6 7)]", "([0 1 2] [3 4 5] [6 7])",
        ]
        self.assertEqual([making(web) for web in made_webs()], told)
        for web in made_webs():
            self.assertTrue(is_right(web, making(web)))
        for web in crossed_webs():
            self.assertEqual((is_made(web), making(web)), (False, None))

    def test_the_ends_exchanged(self):
        self.assertEqual(making(made_webs()[4].turned()), "(0 [1 2])")
        self.assertEqual(making(made_webs()[8].turned()), "[(0 1) (3 2)]")

    def test_all_webs_of_up_to_four_roads_are_made(self):
        for web in list(small_webs("abcde", 4)) + list(small_webs("abcd", 4)):
            self.assertIs(is_made(web), True)

    def check(self, web):
        """Whether a web is made, against putting roads together one after the other."""
        made = own_is_made(web)
        self.assertIs(is_made(web), made, str(web))
        self.assertIs(crossing(web) is None, made, str(web))
        self.assertIs(making(web) is None, not made, str(web))
        if made:
            self.assertTrue(is_right(web, making(web)), str(web))
        else:
            self.assertIs(is_crossing(web, crossing(web)), True, str(web))
        return made

    def test_all_small_webs(self):
        webs = list(small_webs("abcd", 8)) + list(small_webs("abcde", 6))
        told = [self.check(web) for web in webs]
        self.assertTrue(told.count(True) > 100 and told.count(False) > 100)

    def test_webs_of_up_to_eight_roads(self):
        told = [self.check(web) for web in random_webs(400, 6)]
        self.assertTrue(told.count(True) > 50 and told.count(False) > 50)

    def test_a_road_parted_by_a_new_place(self):
        for web in sample_webs():
            if len(web) == 8:
                continue
            for index, (x, y, base, rise) in enumerate(web.roads):
                new = next(place for place in "nopqr" if place not in web.places)
                halves = tuple([tuple(sorted([end, new])) + (base, rise) for end in (x, y)])
                roads = web.roads[:index] + halves + web.roads[index + 1:]
                self.assertIs(is_made(Web(web.origin, web.goal, roads)), is_made(web))

    def test_a_road_put_beside_another_one(self):
        for web in sample_webs():
            if len(web) == 8:
                continue
            for x, y, _, _ in web.roads:
                self.assertIs(is_made(web.widened((x, y, 7, 7))), is_made(web))
                more = Web(web.origin, web.goal, ((x, y, 7, 7),) + web.roads)
                self.assertIs(is_made(more), is_made(web))


class Crossings(unittest.TestCase):
    def wrong(self, web, *pieces):
        for piece in pieces:
            self.assertIs(is_crossing(web, piece), False)

    def test_pieces_and_middles_against_all_corners_and_rows(self):
        for web in crossed_webs() + made_webs()[:12] + random_webs(60, 7):
            with self.subTest(str(web)):
                pieces = own_crossings(web)
                self.assertEqual(len(pieces) == 0, is_made(web))
                found = crossing(web)
                self.assertTrue(found is None if not pieces else found in pieces)
                for piece in pieces:
                    self.assertIs(is_crossing(web, piece), True)
                told = middles(web)
                self.assertEqual(told, tuple(sorted({index for piece in pieces for index in piece[3]})))
                self.assertIs(type(told), tuple)

    def test_pieces_turned_round(self):
        for web in crossed_webs():
            for lead, a, b, c, d, e, tail in own_crossings(web):
                self.assertIs(is_crossing(web, (lead, b, a, c[::-1], e, d, tail)), True)
                # Seen from the goal, E is A, D is B, and C leads from v to u.
                turned = tuple([row[::-1] for row in (tail, e, d, c, b, a, lead)])
                self.assertIs(is_crossing(web.turned(), turned), True)

    def test_all_pieces_of_the_crossed_web(self):
        self.assertEqual(sorted(own_crossings(cross())), [PIECE, ((), (1,), (0,), (2,), (4,), (3,), ())])

    def test_bent_pieces(self):
        lead, a, b, c, d, e, tail = PIECE
        self.wrong(
            cross(), (lead, b, a, c, d, e, tail), (lead, a, b, c, e, d, tail), (a, lead, b, c, d, e, tail),
            (lead, a, b, (), d, e, tail), (lead, (), b, c, d, e, tail), (lead, a, (), c, d, e, tail),
            (lead, a, b, c, (), e, tail), (lead, a, b, c, d, (), tail), (lead, a, b, c, d, e, e),
            (a, a, b, c, d, e, tail), (lead, a, b, (2, 2, 2), d, e, tail), (lead, (0, 2), b, c, d, e, tail),
            (lead, a, a, c, d, e, tail), (lead, a, b, c, d, d, tail), (lead, a, b, c, e, e, tail),
            ((), (), (), (), (), (), ()), (tail, e, d, c, b, a, lead), (lead, a, (1, 2, 2), c, d, e, tail),
            (lead, a, (0, 2), c, d, e, tail), (lead, a, b, c, (2, 4), e, tail), ((0, 0), a, b, c, d, e, tail),
            (lead, a, b, (3,), d, e, tail), (lead, a, b, c, d, e, (4, 4)), (lead, a, (1, 4, 4), c, d, e, tail),
        )

    def test_pieces_that_meet_a_place_twice(self):
        # B and D both go over x; without x they would be a piece.
        web = Web("a", "d", roads_of("ab ax cx bc bx dx cd", ((1, 1),) * 7))
        self.wrong(web, ((), (0,), (1, 2), (3,), (4, 5), (6,), ()))
        self.assertFalse(is_made(web))
        # The LEAD goes over b, and A ends there.
        web = Web("o", "d", roads_of("bo ab ab ac bc bd cd", ((1, 1),) * 7))
        self.wrong(web, ((0, 1), (2,), (3,), (4,), (5,), (6,), ()))
        # D goes over the goal, or, the ends exchanged, B over the origin.
        web = Web("a", "d", roads_of("ab ac bc bd cd de ce", ((1, 1),) * 7))
        self.wrong(web, ((), (0,), (1,), (2,), (3, 5), (6,), (5,)))
        self.wrong(web.turned(), ((5,), (6,), (5, 3), (2,), (1,), (0,), ()))
        # B meets a place of the TAIL, D one of the LEAD.
        web = Web("a", "e", roads_of("ab bc bd cd ce de ae", ((1, 1),) * 7))
        self.assertIs(is_crossing(web, ((0,), (1,), (2,), (3,), (4,), (5,), ())), True)
        self.wrong(web, ((0,), (1,), (0, 6, 5), (3,), (4,), (5,), ()), ((0,), (1,), (2,), (3,), (1, 0, 6), (5,), ()))

    def test_pieces_with_longer_rows(self):
        web = Web("a", "f", roads_of("ab bc bd ce de cf ef", ((1, 1),) * 7))
        self.assertIs(is_crossing(web, ((0,), (1,), (2, 4), (3,), (5,), (6,), ())), True)
        self.wrong(web, ((0,), (1,), (2,), (3,), (5,), (6,), ()), ((0,), (1,), (4, 2), (3,), (5,), (6,), ()))
        self.wrong(web, ((), (0, 1), (2, 4), (3,), (5,), (6,), ()), ((), (1,), (2, 4), (3,), (5,), (6,), ()))
        self.wrong(web, ((0,), (1,), (2, 4), (3,), (5,), (6,), (6,)), ((0,), (1,), (2, 4), (3,), (5,), (), (6,)))

    def test_pieces_that_leave_out_a_row(self):
        ones = ((1, 1),) * 7
        # LEAD and TAIL have to reach the origin and the goal, though all else is right.
        web = Web("a", "f", roads_of("ab bc bd cd ce de ef", ones))
        self.assertIs(is_crossing(web, ((0,), (1,), (2,), (3,), (4,), (5,), (6,))), True)
        self.wrong(web, ((0,), (1,), (2,), (3,), (4,), (5,), ()), ((), (1,), (2,), (3,), (4,), (5,), (6,)))
        # With one of the five others empty two of the corners would be one place.
        web = Web("a", "c", roads_of("ab ab ac bc", ones))
        self.wrong(web, ((), (), (0,), (1,), (2,), (3,), ()), ((), (0,), (2,), (3,), (1, 3), (), ()))
        web = Web("a", "c", roads_of("ab ab bc bc", ones))
        self.wrong(web, ((), (0,), (1,), (), (2,), (3,), ()))
        web = Web("a", "c", roads_of("ab bc bc ac", ones))
        self.wrong(web, ((), (0,), (3,), (1,), (2,), (), ()))

    def test_all_lots_of_single_roads(self):
        for web in (cross(), cross().turned(), crossed_webs()[2]):
            right = own_crossings(web)
            for row in itertools.product(range(len(web)), repeat=5):
                piece = ((),) + tuple([(index,) for index in row]) + ((),)
                self.assertIs(is_crossing(web, piece), piece in right)

    def test_pieces_of_another_web_and_indexes_that_are_none(self):
        self.wrong(twins(), PIECE)
        self.wrong(block(), PIECE)
        for at in range(7):
            for index in (5, -1, -5, True, False, None, "0", (0,), 10 ** 99, [0], Touchy(), Agreeing()):
                self.wrong(cross(), PIECE[:at] + ((index,),) + PIECE[at + 1:])
                self.wrong(cross(), PIECE[:at] + (PIECE[at] + (index,),) + PIECE[at + 1:])
        self.wrong(cross(), ((), (False,), (True,), (2,), (3,), (4,), ()))

    def test_values_of_any_kind(self):
        self.wrong(cross(), *odd_values())
        self.wrong(cross(), PIECE[:6], PIECE + ((),), list(PIECE), (PIECE,), PIECE[1:6], "0123456", tuple(range(7)))
        for value in odd_values() + [[], [0], "", "0", {}, {0: 0}, b"", range(0)]:
            for at in range(7):
                self.wrong(cross(), PIECE[:at] + (value,) + PIECE[at + 1:])
            self.wrong(cross(), (value,) * 7)

    def test_what_is_passed_stays_as_it_is(self):
        rows = [list(row) for row in PIECE]
        self.wrong(cross(), rows, tuple(rows))
        self.assertEqual(rows, [[], [0], [1], [2], [3], [4], []])


class WorstCosts(unittest.TestCase):
    """For a piece, its row of C with the road that is told, costs are as the document has them."""

    def fits(self, web, index, piece):
        lead, a, b, c, d, e, tail = piece
        numbers = [road[2:] for road in web.roads]
        inside = [at for row in piece for at in row]
        if any(numbers[at] != (1000000, 0) for at in range(len(web)) if at not in inside):
            return False
        for rows, costs in (((a, e), (0, 10)), ((b, d), (50, 1)), ((c,), (10, 1))):
            for row in rows:
                told = sorted([numbers[at] for at in row], key=lambda pair: pair == costs)
                if told != [(0, 0)] * (len(row) - 1) + [costs]:
                    return False
        return index in c and numbers[index] == (10, 1) and all(numbers[at] == (0, 0) for at in lead + tail)

    def by_sums(self, web, piece, index):
        """What is paid with the amount 6, and without the road, by sums of the test's own."""
        lead, a, b, c, d, e, tail = piece
        outer = [lead + a + d + tail, lead + b + e + tail]
        loads = tuple(sorted([(way, 2, 1) for way in outer + [lead + a + c + e + tail]]))
        prices = {way: own_price(web, loads, way) for way in own_ways(web)}
        self.assertEqual({prices[load[0]] for load in loads}, {92})
        self.assertEqual(min(prices.values()), 92)
        loads = tuple(sorted([(way, 3, 1) for way in outer]))
        prices = {way: own_price(web, loads, way) for way in own_ways(web) if index not in way}
        self.assertEqual({prices[load[0]] for load in loads}, {83})
        self.assertEqual(min(prices.values()), 83)

    def test_webs_with_a_crossing_piece(self):
        webs = crossed_webs() + [web.turned() for web in crossed_webs()] + random_webs(80, 8)
        for web in webs:
            if is_made(web):
                self.assertIsNone(worst_costs(web))
                continue
            with self.subTest(str(web)):
                told = worst_costs(web)
                self.assertIs(type(told), tuple)
                worst, index = told
                self.assertEqual((worst.origin, worst.goal), (web.origin, web.goal))
                self.assertEqual([road[:2] for road in worst.roads], [road[:2] for road in web.roads])
                pieces = [piece for piece in own_crossings(web) if self.fits(worst, index, piece)]
                self.assertNotEqual(pieces, [])
                for piece in pieces:
                    self.by_sums(worst, piece, index)
                self.assertEqual(level(worst, (6, 1)), (92, 1))
                self.assertEqual(level(worst.closed((index,)), (6, 1)), (83, 1))

    def test_made_webs(self):
        for web in made_webs():
            self.assertIsNone(worst_costs(web))

    def test_the_crossed_web(self):
        web, index = worst_costs(cross())
        self.assertEqual(index, 2)
        turned = ((50, 1), (0, 10), (10, 1), (0, 10), (50, 1))
        self.assertIn(web.roads, [cross().roads, roads_of("ab ac bc bd cd", turned)])


if __name__ == "__main__":
    unittest.main()
