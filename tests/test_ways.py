import itertools
import unittest

from closedroads.errors import InvalidWay
from closedroads.ways import cost_without, places_on, ways, ways_over
from closedroads.webs import Web
from tests.own import own_places, own_ways
from tests.samples import cross, crossed_webs, made_webs, sample_webs, twins


class Ways(unittest.TestCase):
    def test_the_examples(self):
        told = [ways(cross()), ways_over(cross(), 3), places_on(cross(), (1, 2, 3))]
        self.assertEqual(told, [((0, 2, 4), (0, 3), (1, 2, 3), (1, 4)), ((0, 3), (1, 2, 3)), "acbd"])
        self.assertEqual([cost_without(cross(), (0, 2, 4)), ways(twins())], [10, ((0,), (1,))])

    def test_the_samples_are_of_all_sizes(self):
        self.assertEqual(sorted({len(web) for web in made_webs()}), list(range(1, 9)))
        self.assertEqual(sorted({len(web) for web in crossed_webs()}), list(range(5, 9)))

    def test_all_ways_ascending(self):
        for web in sample_webs():
            with self.subTest(str(web)):
                found = ways(web)
                self.assertEqual(found, own_ways(web))
                self.assertEqual(found, ways(web=web))
                self.assertTrue(all(one < other for one, other in zip(found, found[1:])))

    def test_the_kinds_of_what_is_returned(self):
        for web in sample_webs():
            self.assertIs(type(ways(web)), tuple)
            for way in ways(web):
                self.assertIs(type(way), tuple)
                self.assertTrue(all(type(index) is int for index in way))

    def test_the_ways_over_each_road(self):
        for web in sample_webs():
            for index in range(len(web)):
                found = ways_over(web, index)
                self.assertIs(type(found), tuple)
                self.assertEqual(found, tuple(way for way in own_ways(web) if index in way))
                self.assertEqual(found, ways_over(index=index, web=web))
                self.assertNotEqual(found, ())

    def test_the_places_on_each_way(self):
        for web in sample_webs():
            for way in own_ways(web):
                found = places_on(web, way)
                self.assertEqual(found, own_places(web, way))
                self.assertEqual(found, places_on(way=way, web=web))
                self.assertEqual((found[0], found[-1]), (web.origin, web.goal))

    def test_all_rows_of_roads_that_are_no_ways(self):
        for web in (cross(), cross().turned(), made_webs()[6], made_webs()[8], twins().turned()):
            right = own_ways(web)
            for many in range(5):
                for row in itertools.product(range(len(web)), repeat=many):
                    if row in right:
                        self.assertEqual(len(places_on(web, row)), many + 1)
                        continue
                    with self.assertRaises(InvalidWay) as caught:
                        places_on(web, row)
                    self.assertIs(caught.exception.given, row)

    def test_costs_without_traffic(self):
        for web in sample_webs():
            for way in own_ways(web):
                found = cost_without(web, way)
                self.assertEqual(found, sum(web.roads[index][2] for index in way))
                self.assertEqual(found, cost_without(way=way, web=web))
                self.assertIs(type(found), int)

    def test_ends_exchanged(self):
        for web in sample_webs():
            turned = sorted(way[::-1] for way in ways(web))
            self.assertEqual(ways(web.turned()), tuple(turned))

    def test_a_way_may_go_a_road_from_its_second_place(self):
        web = Web("c", "a", (("b", "c", 3, 1), ("a", "b", 4, 1)))
        self.assertEqual((ways(web), places_on(web, (0, 1)), cost_without(web, (0, 1))), (((0, 1),), "cba", 7))

    def test_webs_made_anew_give_the_same(self):
        for web in sample_webs():
            self.assertEqual(ways(Web.told(str(web))), ways(web))
            text = str(web)
            ways_over(web, 0)
            self.assertEqual(str(web), text)


if __name__ == "__main__":
    unittest.main()
