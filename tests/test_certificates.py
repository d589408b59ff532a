import unittest
from fractions import Fraction

from closedroads.certificates import certify_closing, certify_level, certify_making
from closedroads.checker import accepts
from closedroads.errors import InvalidAmount, NotAWeb
from closedroads.pieces import worst_costs
from closedroads.steady import steady
from closedroads.webs import Web
from tests.making_read import is_right
from tests.own import level_shown, own_closed, own_crossings, own_helping, own_is_made
from tests.samples import CROSS_TEXT, TWINS_TEXT, cross, crossed_webs, made_webs, roads_of, sample_webs, twins
from tests.test_arguments import wrong_amounts, wrong_webs
from tests.test_closing import middles_beside

AMOUNTS = ((1, 1000), (1, 3), (6, 1), (45, 7), (1000000, 999))


def all_webs():
    return sample_webs() + [worst_costs(web)[0] for web in crossed_webs()] + [middles_beside(2), middles_beside(3)]


class Certificates(unittest.TestCase):
    def test_the_examples(self):
        block = Web("a", "e", roads_of("ab ab be ae bd de", ((1, 1), (2, 2), (0, 3), (9, 0), (0, 1), (1, 1))))
        told = (("steady", TWINS_TEXT, 4, 1, 3, 1), (((0,), 3, 1), ((1,), 1, 1)))
        self.assertEqual(certify_level(twins(), (4, 1)), told)
        self.assertEqual(certify_making(block)[1], "[([0 1] [2 (4 5)]) 3]")
        self.assertEqual(certify_making(cross())[0][0], "crossed")
        self.assertEqual(certify_closing(twins(), (4, 1)), (("calm", TWINS_TEXT, 4, 1), ()))
        self.assertEqual(certify_closing(cross(), (6, 1))[0][2:], (6, 1, 2))

    def test_by_name(self):
        self.assertEqual(certify_level(amount=(4, 1), web=twins()), certify_level(twins(), (4, 1)))
        self.assertEqual(certify_making(web=cross()), certify_making(cross()))
        self.assertEqual(certify_closing(amount=(6, 1), web=cross()), certify_closing(cross(), (6, 1)))

    def refused_with_other_numbers(self, claim, certificate):
        """The claim is not accepted with one of its numbers made another one."""
        for at in range(2, len(claim)):
            for number in (claim[at] + 1, claim[at] + 10 ** 9, -1 - claim[at], 2 * claim[at] + 1):
                bent = claim[:at] + (number,) + claim[at + 1:]
                self.assertIs(accepts(bent, certificate), False, (bent, certificate))

    def test_levels(self):
        for web in all_webs():
            for amount in AMOUNTS:
                with self.subTest(web=str(web), amount=amount):
                    told = certify_level(web, amount)
                    self.assertEqual((type(told), len(told)), (tuple, 2))
                    claim, loads = told
                    self.assertEqual((type(claim), claim[:4]), (tuple, ("steady", str(web)) + amount))
                    self.assertEqual(Fraction(*claim[4:]), level_shown(web, loads, amount))
                    self.assertIs(accepts(claim, loads), True)
                    self.refused_with_other_numbers(claim, loads)

    def test_makings(self):
        for web in all_webs() + [web.turned() for web in all_webs()]:
            told = certify_making(web)
            self.assertEqual((type(told), len(told)), (tuple, 2))
            claim, certificate = told
            self.assertEqual(claim, ("made" if own_is_made(web) else "crossed", str(web)))
            if own_is_made(web):
                self.assertIs(is_right(web, certificate), True)
            else:
                self.assertIn(certificate, own_crossings(web))
            self.assertIs(accepts(claim, certificate), True)

    def test_closing(self):
        words = {"helps": 0, "calm": 0}
        for web in all_webs():
            for amount in AMOUNTS:
                with self.subTest(web=str(web), amount=amount):
                    claim, certificate = certify_closing(web, amount)
                    helps = own_helping(web, amount)
                    self.assertEqual(claim[:4], ("helps" if helps else "calm", str(web)) + amount)
                    self.assertEqual(len(claim), 5 if helps else 4)
                    self.assertIs(accepts(claim, certificate), True)
                    words[claim[0]] += 1
                    if helps:
                        self.check_help(web, amount, claim, certificate)
                    else:
                        self.assertEqual(certificate, ())
        self.assertTrue(min(words.values()) > 10, words)

    def check_help(self, web, amount, claim, certificate):
        self.assertIn(claim[4], own_helping(web, amount))
        self.assertEqual((type(certificate), len(certificate)), (tuple, 2))
        before = level_shown(web, certificate[0], amount)
        after = level_shown(own_closed(web, claim[4:]), certificate[1], amount)
        self.assertLess(after, before)
        self.refused_with_other_numbers(claim[:4], certificate)
        for index in range(8):
            bent = claim[:4] + (index,)
            if index >= len(web) or index not in own_helping(web, amount):
                self.assertIs(accepts(bent, certificate), False)

    def test_one_of_several_roads_that_help(self):
        web = middles_beside(2)
        self.assertEqual(own_helping(web, (6, 1)), (2, 3))
        claim, certificate = certify_closing(web, (6, 1))
        self.assertIn(claim, [("helps", str(web), 6, 1, index) for index in (2, 3)])
        self.check_help(web, (6, 1), claim, certificate)

    def test_calm_claims_with_other_amounts(self):
        claim, certificate = certify_closing(cross(), (1, 1))
        self.assertEqual([accepts(claim, certificate), accepts(claim[:2] + (6, 1), certificate)], [True, False])

    def test_made_webs_are_calm(self):
        for web in made_webs():
            for amount in AMOUNTS:
                self.assertEqual(certify_closing(web, amount), (("calm", str(web)) + amount, ()))

    def test_the_loads_are_those_of_this_package(self):
        claim, loads = certify_level(cross(), (6, 1))
        self.assertEqual(loads, steady(cross(), (6, 1)))
        self.assertEqual(claim, ("steady", CROSS_TEXT, 6, 1, 92, 1))
        claim, pair = certify_closing(cross(), (6, 1))
        self.assertEqual(claim, ("helps", CROSS_TEXT, 6, 1, 2))
        self.assertEqual(pair, (steady(cross(), (6, 1)), (((0, 2), 3, 1), ((1, 3), 3, 1))))

    def test_errors(self):
        for call in (certify_level, certify_closing):
            for value in wrong_amounts():
                with self.assertRaises(InvalidAmount) as caught:
                    call(cross(), value)
                self.assertIs(caught.exception.given, value)
        for value in wrong_webs():
            for call in (lambda web: certify_level(web, None), certify_making, lambda web: certify_closing(web, None)):
                with self.assertRaises(NotAWeb) as caught:
                    call(value)
                self.assertIs(caught.exception.given, value)

    def test_asked_twice_and_of_webs_made_anew(self):
        for web in all_webs():
            text = str(web)
            first = certify_level(web, (6, 1)), certify_making(web), certify_closing(web, (6, 1))
            for again in (Web.told(text), web):
                told = certify_level(again, (6, 1)), certify_making(again), certify_closing(again, (6, 1))
                self.assertEqual(told, first)
            self.assertEqual(str(web), text)


if __name__ == "__main__":
    unittest.main()
