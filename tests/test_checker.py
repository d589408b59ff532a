import inspect
import random
import unittest
from fractions import Fraction

from closedroads import checker
from closedroads.certificates import certify_closing, certify_level, certify_making
from closedroads.checker import accepts
from closedroads.pieces import crossing, making, worst_costs
from closedroads.steady import level, steady, steady_loads
from closedroads.webs import Web
from tests.own import own_closed, own_crossings, own_helping, own_is_made, own_level, own_ways, pair
from tests.own_checker import bent, bent_text, bent_tuple, own_accepts
from tests.samples import (
    CROSS_TEXT, TWINS_TEXT, Agreeing, Touchy, cross, crossed_webs, made_webs, odd_values, roads_of, sample_webs, twins,
)
from tests.test_desks import full_web

PIECE = ((), (0,), (1,), (2,), (3,), (4,), ())
CALM = (((0, 2, 4), 2, 1), ((0, 3), 2, 1), ((1, 4), 2, 1))
OUTER = (((0, 2), 3, 1), ((1, 3), 3, 1))
PAIR = (((0,), 3, 1), ((1,), 1, 1))


def right_ones():
    """Claims with certificates, each of them right."""
    return [
        (("steady", TWINS_TEXT, 4, 1, 3, 1), PAIR),
        (("steady", TWINS_TEXT, 1, 2, 1, 2), (((0,), 1, 2),)),
        (("steady", CROSS_TEXT, 6, 1, 92, 1), CALM),
        (("steady", "a b\na b 0 0", 5, 1, 0, 1), (((0,), 5, 1),)),
        (("made", TWINS_TEXT), "[0 1]"),
        (("made", "a b\na b 3 3"), "0"),
        (("made", "a c\na b 1 1\na b 1 1\nb c 1 1\na c 1 1"), "[([0 1] 2) 3]"),
        (("crossed", CROSS_TEXT), PIECE),
        (("crossed", "a f\na b 1 1\nb c 1 1\nb d 1 1\nc d 1 1\nc e 1 1\nd e 1 1\ne f 1 1"),
         ((0,), (1,), (2,), (3,), (4,), (5,), (6,))),
        (("helps", CROSS_TEXT, 6, 1, 2), (CALM, OUTER)),
        (("calm", CROSS_TEXT, 1, 1), ()),
        (("calm", TWINS_TEXT, 4, 1), ()),
    ]


class Interface(unittest.TestCase):
    def test_its_shape(self):
        self.assertEqual(str(inspect.signature(accepts)), "(claim, certificate)")
        self.assertIn("def accepts(claim, certificate)", inspect.getsource(checker))

    def test_the_examples(self):
        claim = ("steady", TWINS_TEXT, 4, 1, 3, 1)
        told = [
            accepts(claim, PAIR), accepts(claim, (((0,), 4, 1),)),
            accepts(("made", TWINS_TEXT), "[0 1]"), accepts(("made", TWINS_TEXT), "[1 0]"),
            accepts(("crossed", str(cross())), PIECE), accepts(("calm", str(cross()), 6, 1), ()),
        ]
        self.assertEqual(told, [True, False, True, False, True, False])

    def test_by_name(self):
        self.assertIs(accepts(certificate=(), claim=("calm", TWINS_TEXT, 4, 1)), True)


class Right(unittest.TestCase):
    def check(self, claim, certificate):
        self.assertIs(own_accepts(claim, certificate), True, (claim, certificate))
        self.assertIs(accepts(claim, certificate), True, (claim, certificate))

    def test_told_ones(self):
        for claim, certificate in right_ones():
            self.check(claim, certificate)

    def test_what_this_package_returns(self):
        for web in sample_webs():
            self.check(*certify_making(web))
            for amount in ((1, 1000), (6, 1), (1000000, 999)):
                self.check(*certify_level(web, amount))
                self.check(*certify_closing(web, amount))

    def test_all_crossing_pieces(self):
        for web in crossed_webs():
            for piece in own_crossings(web):
                self.check(("crossed", str(web)), piece)

    def test_all_roads_that_help(self):
        many = 0
        for web in crossed_webs() + [worst_costs(web)[0] for web in crossed_webs()] + [cross()]:
            for index in own_helping(web, (6, 1)):
                fewer = own_closed(web, (index,))
                self.check(("helps", str(web), 6, 1, index), (steady(web, (6, 1)), steady(fewer, (6, 1))))
                many += 1
        self.assertGreater(many, 14)

    def test_amounts_beyond_the_limits_of_amount(self):
        for amount in ((1, 10 ** 60), (10 ** 60, 1), (1000001, 1), (1, 1001), (10 ** 40, 10 ** 40 + 1)):
            for web in sample_webs()[::3]:
                told = pair(own_level(web, amount))
                self.check(("steady", str(web)) + amount + told, steady_loads(web, amount))
                if own_helping(web, amount) == ():
                    self.check(("calm", str(web)) + amount, ())
        amount = (6 * 10 ** 30 + 1, 10 ** 30)
        loads = steady_loads(cross(), amount), steady_loads(cross().closed((2,)), amount)
        self.check(("helps", CROSS_TEXT) + amount + (2,), loads)

    def test_other_steady_loads_than_those_of_this_package(self):
        web = Web("a", "c", roads_of("ab ab bc bc", ((0, 1),) * 4))
        claim = ("steady", str(web), 4, 1, 4, 1)
        for share in (Fraction(0), Fraction(1, 3), Fraction(1), Fraction(2)):
            loads = [((0, 2), share), ((0, 3), 2 - share), ((1, 2), 2 - share), ((1, 3), share)]
            self.check(claim, tuple([(way,) + pair(number) for way, number in loads if number > 0]))


class Bent(unittest.TestCase):
    def check(self, claim, certificate):
        told = accepts(claim, certificate)
        self.assertIs(told, own_accepts(claim, certificate), (claim, certificate))
        return told

    def test_each_place_bent_in_many_ways(self):
        for claim, certificate in right_ones():
            for other in bent_tuple(claim):
                self.check(other, certificate)
            for other in bent(certificate):
                self.check(claim, other)

    def test_both_sides_of_any_kind(self):
        values = odd_values() + [(), ((),), [], "made", ("made",), ("steady",), (TWINS_TEXT,), ("made", TWINS_TEXT, 1)]
        for one in values:
            for other in values + ["[0 1]", PIECE, PAIR]:
                self.assertIs(accepts(one, other), False)
        for claim, certificate in right_ones():
            self.assertIs(accepts(list(claim), certificate), False)
            self.assertIs(accepts(certificate, claim), False)
            for other in values:
                self.assertIs(accepts(other, certificate), False)
                self.check(claim, other)

    def test_the_claims_words(self):
        for claim, certificate in right_ones():
            for word in ("steady", "made", "crossed", "helps", "calm", "", "Made", "made ", None, 0, True, Touchy()):
                if type(word) is not str or word != claim[0]:
                    self.assertIs(accepts((word,) + claim[1:], certificate), False)
                    self.assertIs(accepts((word,) + claim[1:], ()), False)

    def test_certificates_of_other_claims(self):
        for claim, right in right_ones():
            for _, certificate in right_ones():
                self.assertIs(self.check(claim, certificate), certificate == right)

    def test_texts_of_other_webs(self):
        texts = [str(web) for web in sample_webs()]
        for claim, certificate in right_ones():
            for text in texts + list(bent_text(claim[1])):
                self.check((claim[0], text) + claim[2:], certificate)
        for claim, certificate in right_ones():
            if claim[0] != "calm":
                other = (claim[0], "z m\nm y 7 1\nm z 7 2\ny z 1 1\ny z 5 5\nm z 1 2") + claim[2:]
                self.assertIs(accepts(other, certificate), False)

    def test_other_levels_and_amounts(self):
        for web in sample_webs():
            loads, now = steady(web, (6, 1)), Fraction(*level(web, (6, 1)))
            head = ("steady", str(web))
            self.assertIs(accepts(head + (6, 1) + pair(now), loads), True)
            for number in (now + 1, now + Fraction(1, 10 ** 30), now * 2 + 1, now + Fraction(1, 7)):
                self.assertIs(accepts(head + (6, 1) + pair(number), loads), False)
            for amount in ((5, 1), (7, 1), (6, 5), (10 ** 30, 1), (12, 2), (0, 1), (-6, 1), (6, 0), (6, -1), (True, 1)):
                self.assertIs(accepts(head + amount + pair(now), loads), False)
            for top, bottom in ((now.numerator * 2, now.denominator * 2), (-1, 1), (1, 0), (True, 1), (False, 1)):
                self.assertIs(accepts(head + (6, 1, top, bottom), loads), False)


class BentLoads(unittest.TestCase):
    """Loads that are none, that are not steady, or that carry another amount."""

    def variants(self, web, loads, chance):
        for at, (way, top, bottom) in enumerate(loads):
            rest = loads[:at], loads[at + 1:]
            for other in [way for way in own_ways(web) if way not in [load[0] for load in loads]]:
                yield tuple(sorted(rest[0] + ((other, top, bottom),) + rest[1]))
            for number in (Fraction(top, bottom) + 1, Fraction(top, bottom) / 2, Fraction(top, bottom) * 3):
                yield rest[0] + ((way,) + pair(number),) + rest[1]
            yield rest[0] + ((way, 2 * top, 2 * bottom),) + rest[1]
            yield rest[0] + ((way, -top, -bottom),) + rest[1]
            yield rest[0] + ((way, top, bottom),) * 2 + rest[1]
            yield rest[0] + ((way[::-1], top, bottom),) + rest[1]
            yield rest[0] + ([way, top, bottom],) + rest[1]
            yield rest[0] + ((list(way), top, bottom),) + rest[1]
            yield rest[0] + ((way, True, bottom),) + rest[1]
            half = Fraction(top, bottom) / 2
            for other in own_ways(web):
                if other != way:
                    moved = {load[0]: Fraction(*load[1:]) for load in loads}
                    moved[way] -= half
                    moved[other] = moved.get(other, 0) + half
                    yield tuple([(line,) + pair(moved[line]) for line in sorted(moved)])
        yield loads[:-1]
        yield loads + loads[:1]
        yield tuple(chance.sample(loads, len(loads)))
        yield tuple([(way, 2 * top, bottom) for way, top, bottom in loads])
        yield list(loads)

    def test_claims_of_levels(self):
        chance = random.Random(51)
        told = {True: 0, False: 0}
        for web in sample_webs():
            claim, loads = certify_level(web, (6, 1))
            for other in self.variants(web, loads, chance):
                right = own_accepts(claim, other)
                self.assertIs(accepts(claim, other), right, (claim, other))
                told[right] += 1
        # Some lots of loads are others with the same costs of roads, and right.
        self.assertTrue(told[True] > 5 and told[False] > 1000, told)

    def test_claims_of_help(self):
        chance = random.Random(52)
        for web in [cross()] + [worst_costs(web)[0] for web in crossed_webs()]:
            claim, (loads, fewer) = certify_closing(web, (6, 1))
            self.assertEqual(claim[0], "helps")
            for other in self.variants(web, loads, chance):
                self.assertIs(accepts(claim, (other, fewer)), own_accepts(claim, (other, fewer)))
            for other in self.variants(own_closed(web, (claim[4],)), fewer, chance):
                self.assertIs(accepts(claim, (loads, other)), own_accepts(claim, (loads, other)))
            others = [(fewer, loads), (loads, loads), (fewer, fewer), (loads,), (loads, fewer, ()), loads]
            for other in others + [[loads, fewer]]:
                self.assertIs(accepts(claim, other), False)


class Makings(unittest.TestCase):
    def test_each_sign_bent(self):
        for web in made_webs():
            how = making(web)
            for other in bent_text(how):
                if type(other) is str:
                    self.assertIs(accepts(("made", str(web)), other), other == how, (str(web), other))
                else:
                    self.assertIs(accepts(("made", str(web)), other), False)

    def test_other_ways_to_write_it(self):
        text = "a c\na b 1 1\na b 1 1\nb c 1 1\na c 1 1"
        others = [
            "[3 ([0 1] 2)]", "[([1 0] 2) 3]", "[(2 [0 1]) 3]", "[[([0 1] 2)] 3]", "[(([0 1]) 2) 3]", "([0 1] 2) 3",
            "[([0 1]  2) 3]", "[([0, 1] 2) 3]", "(([0 1] 2) 3)", "[([0 1] 2)3]", "[([00 1] 2) 3]", "[([0 1] 2) 3",
        ]
        for other in others:
            self.assertIs(accepts(("made", text), other), False)
        self.assertIs(accepts(("made", text), "[([0 1] 2) 3]"), True)

    def test_crossed_webs_have_none(self):
        for web in crossed_webs():
            for how in [making(other) for other in made_webs()] + ["", "0", None, (), "no", Agreeing()]:
                self.assertIs(accepts(("made", str(web)), how), False)


class Pieces(unittest.TestCase):
    def test_runs_exchanged_turned_round_and_left_out(self):
        for web in crossed_webs():
            claim, piece = ("crossed", str(web)), crossing(web)
            right = own_crossings(web)
            others = [piece[:at] + piece[at + 1:] for at in range(7)] + [piece[::-1], piece + ((),), list(piece)]
            for at in range(7):
                for other in range(7):
                    row = list(piece)
                    row[at], row[other] = row[other], row[at]
                    others.append(tuple(row))
                    others.append(piece[:at] + (piece[other],) + piece[at + 1:])
                others.append(piece[:at] + (piece[at][::-1],) + piece[at + 1:])
                others.append(piece[:at] + ((),) + piece[at + 1:])
                others.append(piece[:at] + (list(piece[at]),) + piece[at + 1:])
                others.append(piece[:at] + (piece[at] * 2,) + piece[at + 1:])
            for other in others:
                self.assertIs(accepts(claim, other), type(other) is tuple and other in right, (str(web), other))

    def test_made_webs_have_none(self):
        pieces = [piece for web in crossed_webs() for piece in own_crossings(web)[:20]]
        for web in made_webs():
            for piece in pieces + [(), ((),) * 7, None]:
                self.assertIs(accepts(("crossed", str(web)), piece), False)


class Closing(unittest.TestCase):
    def test_helps_with_other_roads_and_other_amounts(self):
        for index in (0, 1, 3, 4, 5, 8, -1, True, None, "2", (2,)):
            self.assertIs(accepts(("helps", CROSS_TEXT, 6, 1, index), (CALM, OUTER)), False)
        for amount in ((5, 1), (7, 1), (12, 2), (6, 0), (-6, 1), (0, 1), (6, True)):
            self.assertIs(accepts(("helps", CROSS_TEXT) + amount + (2,), (CALM, OUTER)), False)

    def test_roads_whose_closing_does_not_help(self):
        for web in sample_webs():
            for index in range(len(web)):
                fewer = own_closed(web, (index,))
                if fewer is None:
                    pair_of_loads = (steady(web, (6, 1)), steady(web, (6, 1)))
                else:
                    pair_of_loads = (steady(web, (6, 1)), steady(fewer, (6, 1)))
                helps = index in own_helping(web, (6, 1))
                self.assertIs(accepts(("helps", str(web), 6, 1, index), pair_of_loads), helps)
                self.assertIs(accepts(("helps", str(web), 6, 1, index), pair_of_loads[::-1]), False)

    def test_each_index_may_be_the_one_that_helps(self):
        for at in range(5):
            roads = [road for index, road in enumerate(cross().roads) if index != 2]
            roads.insert(at, cross().roads[2])
            web = Web("a", "d", tuple(roads))
            loads = steady(web, (6, 1)), steady(own_closed(web, (at,)), (6, 1))
            for index in range(6):
                self.assertIs(accepts(("helps", str(web), 6, 1, index), loads), index == at)

    def test_where_closing_brings_just_the_same(self):
        for amount in ((80, 31), (80, 9)):
            loads = steady(cross(), amount), steady(cross().closed((2,)), amount)
            self.assertIs(accepts(("helps", CROSS_TEXT) + amount + (2,), loads), False)
            self.assertIs(accepts(("calm", CROSS_TEXT) + amount, ()), True)
        for amount in ((81, 31), (79, 9)):
            loads = steady(cross(), amount), steady(cross().closed((2,)), amount)
            self.assertIs(accepts(("helps", CROSS_TEXT) + amount + (2,), loads), True)
            self.assertIs(accepts(("calm", CROSS_TEXT) + amount, ()), False)

    def test_calm_is_accepted_just_where_nothing_helps(self):
        for web in sample_webs() + [worst_costs(web)[0] for web in crossed_webs()]:
            for amount in ((1, 3), (6, 1), (10 ** 30, 1)):
                calm = own_helping(web, amount) == ()
                self.assertIs(accepts(("calm", str(web)) + amount, ()), calm)
                self.assertTrue(calm or not own_is_made(web))
                for other in ([], None, "", ((),), False, 0, {}, Agreeing(), Touchy()):
                    self.assertIs(accepts(("calm", str(web)) + amount, other), False)
        for amount in ((12, 2), (0, 1), (-1, 1), (1, 0), (True, 1), ("1", 1), ((1, 1),), (1,), (1, 1, 1)):
            self.assertIs(accepts(("calm", TWINS_TEXT) + amount, ()), False)

    def test_a_road_without_which_no_way_is_left(self):
        loads = (((0,), 6, 1),)
        self.assertIs(accepts(("helps", "a b\na b 1 1", 6, 1, 0), (loads, loads)), False)
        self.assertIs(accepts(("calm", "a b\na b 1 1", 6, 1), ()), True)
        self.assertIs(accepts(("calm", str(full_web()), 6, 1), ()), True)


class AskedAgain(unittest.TestCase):
    def test_what_is_passed_stays_as_it_is(self):
        for claim, certificate in right_ones():
            rows = (claim, certificate)
            lists = [[list(element) if type(element) is tuple else element for element in row] for row in rows]
            kept = repr(lists)
            self.assertIs(accepts(*lists), False)
            self.assertEqual(repr(lists), kept)
            self.assertEqual([accepts(claim, certificate) for _ in range(3)], [True] * 3)
        self.assertEqual(str(twins()), TWINS_TEXT)


if __name__ == "__main__":
    unittest.main()
