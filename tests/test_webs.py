import copy
import itertools
import unittest

from closedroads.errors import InvalidPlace, InvalidRoads
from closedroads.webs import Web
from tests.samples import CROSS_ROADS, CROSS_TEXT, TWINS_TEXT, Agreeing, Touchy, cross, odd_values, twins

# Origin, goal, roads, places: webs of one to eight roads.
WEBS = [
    ("a", "b", (("a", "b", 0, 0),), "ab"),
    ("z", "a", (("a", "z", 1000000, 1000000),), "az"),
    ("a", "b", (("a", "b", 0, 1), ("a", "b", 2, 1)), "ab"),
    ("m", "c", (("c", "k", 7, 0), ("k", "m", 0, 7)), "ckm"),
    ("a", "c", (("a", "b", 1, 2), ("a", "b", 1, 2), ("b", "c", 3, 4)), "abc"),
    ("c", "a", (("b", "c", 9, 9), ("a", "b", 8, 8), ("a", "c", 7, 7), ("b", "c", 0, 0)), "abc"),
    ("a", "d", CROSS_ROADS, "abcd"),
    ("a", "e", (("a", "b", 1, 1), ("a", "b", 2, 2), ("b", "e", 0, 3), ("a", "e", 9, 0),
                ("b", "d", 0, 1), ("d", "e", 1, 1)), "abde"),
    ("a", "e", (("a", "b", 1, 1), ("a", "c", 1, 1), ("b", "c", 1, 1), ("b", "d", 1, 1),
                ("c", "d", 1, 1), ("d", "e", 1, 1), ("a", "e", 1, 1)), "abcde"),
    ("a", "i", (("a", "b", 0, 1), ("b", "c", 1, 0), ("c", "d", 0, 1), ("d", "e", 1, 0),
                ("e", "f", 0, 1), ("f", "g", 1, 0), ("g", "h", 0, 1), ("h", "i", 1, 0)), "abcdefghi"),
    ("q", "p", (("p", "q", 5, 5),) * 8, "pq"),
    ("d", "a", (("a", "b", 1, 1), ("a", "c", 1, 1), ("a", "d", 1, 1), ("b", "c", 1, 1),
                ("b", "d", 1, 1), ("c", "d", 1, 1), ("c", "d", 1, 1), ("a", "d", 1, 1)), "abcd"),
]


def text_of(origin, goal, roads):
    return "\n".join([f"{origin} {goal}"] + [f"{x} {y} {a} {b}" for x, y, a, b in roads])


def is_way(origin, goal, roads, row):
    """Whether this row of indexes is a way, straight by the words of the document."""
    met = [origin]
    for index in row:
        ends = [roads[index][0], roads[index][1]]
        if met[-1] not in ends:
            return False
        ends.remove(met[-1])
        met.append(ends[0])
    return met[-1] == goal and len(met) == len(set(met))


def first_lone(origin, goal, roads):
    """The index of the first road that lies on no way, found by trying all rows of roads."""
    used = set()
    for many in range(1, len(roads) + 1):
        for row in itertools.permutations(range(len(roads)), many):
            if is_way(origin, goal, roads, row):
                used.update(row)
    lone = [index for index in range(len(roads)) if index not in used]
    return lone[0] if lone else None


class RightWebs(unittest.TestCase):
    def check(self, web, origin, goal, roads, places):
        self.assertEqual((web.origin, web.goal, web.roads), (origin, goal, roads))
        self.assertIs(type(web.roads), tuple)
        self.assertEqual(web.places, places)
        self.assertEqual(len(web), len(roads))
        self.assertEqual(str(web), text_of(origin, goal, roads))
        self.assertIs(bool(web), True)

    def test_made_by_position_by_name_and_by_text(self):
        self.assertEqual(sorted({len(roads) for _, _, roads, _ in WEBS}), list(range(1, 9)))
        for origin, goal, roads, places in WEBS:
            text = text_of(origin, goal, roads)
            with self.subTest(text):
                made = [
                    Web(origin, goal, roads),
                    Web(roads=roads, goal=goal, origin=origin),
                    Web.told(text),
                    Web.told(text=text),
                ]
                for web in made:
                    self.check(web, origin, goal, roads, places)
                for one, other in itertools.product(made, made):
                    self.assertTrue(one == other)
                    self.assertFalse(one != other)

    def test_the_examples(self):
        told = [len(cross()), cross().places, str(twins()), str(cross()), str(twins().turned())]
        self.assertEqual(told, [5, "abcd", TWINS_TEXT, CROSS_TEXT, "b a\na b 0 1\na b 2 1"])

    def test_properties_are_not_assigned(self):
        web = twins()
        for name in ("origin", "goal", "roads", "places"):
            with self.assertRaises(AttributeError):
                setattr(web, name, "c")
        self.assertEqual(str(web), TWINS_TEXT)

    def test_all_small_lists_of_roads(self):
        pairs = [("a", "b"), ("a", "c"), ("a", "d"), ("b", "c"), ("b", "d"), ("c", "d")]
        for many in range(1, 6):
            for ends in itertools.product(pairs, repeat=many):
                roads = tuple([pair + (1, 1) for pair in ends])
                lone = first_lone("a", "c", roads)
                if lone is None:
                    self.assertEqual(Web("a", "c", roads).roads, roads)
                    continue
                with self.assertRaises(InvalidRoads) as caught:
                    Web("a", "c", roads)
                self.assertEqual(caught.exception.index, lone, roads)


class Equality(unittest.TestCase):
    def test_other_ends_roads_and_orders(self):
        roads = (("a", "b", 0, 1), ("a", "b", 2, 1))
        ring = (("a", "b", 1, 1), ("b", "c", 1, 1), ("a", "c", 1, 1))
        webs = [Web(*ends, ring) for ends in itertools.permutations("abc", 2)]
        webs += [
            Web("a", "b", roads),
            Web("b", "a", roads),
            Web("a", "b", roads[::-1]),
            Web("a", "b", roads[:1]),
            Web("a", "b", roads[1:]),
            Web("a", "b", roads + roads[:1]),
            Web("a", "b", (("a", "b", 1, 0), ("a", "b", 2, 1))),
            Web("a", "c", (("a", "c", 0, 1), ("a", "c", 2, 1))),
            Web("a", "c", (("a", "b", 0, 1), ("b", "c", 2, 1))),
        ]
        for at, one in enumerate(webs):
            for place, other in enumerate(webs):
                self.assertIs(one == other, at == place)
                self.assertIs(one != other, at != place)
                self.assertIs(str(one) == str(other), at == place)

    def test_against_values_of_other_classes(self):
        web = twins()
        others = odd_values() + [TWINS_TEXT, web.roads, ("a", "b", web.roads), 2, True, Touchy()]
        for other in others + [Agreeing()]:
            if type(other) is Web:
                continue
            self.assertIs(web == other, False)
            self.assertIs(web != other, True)
            if not isinstance(other, (Agreeing, Touchy)):
                self.assertIs(other == web, False)
                self.assertIs(other != web, True)

    def test_in(self):
        self.assertTrue(twins() in [None, "a", twins()])
        self.assertFalse(twins() in [None, TWINS_TEXT, cross(), twins().turned()])

    def test_equal_arguments_give_equal_results(self):
        self.assertTrue(Web("a", "d", CROSS_ROADS) == Web("a", "d", copy.deepcopy(CROSS_ROADS)))
        self.assertTrue(cross().closed((1,)) == cross().closed((1,)))


class WrongEnds(unittest.TestCase):
    def refuse(self, given, *passed):
        with self.assertRaises(InvalidPlace) as caught:
            Web(*passed)
        self.assertIs(caught.exception.given, given)

    def wrong_places(self):
        return odd_values() + ["a ", " a", "aa", "Z", "\n", "~", ("a",), (), 1, 0]

    def test_wrong_origin(self):
        for value in self.wrong_places():
            self.refuse(value, value, "b", (("a", "b", 0, 1),))

    def test_wrong_goal(self):
        for value in self.wrong_places():
            self.refuse(value, "a", value, (("a", "b", 0, 1),))

    def test_the_goal_is_the_origin(self):
        self.refuse("a", "a", "a", (("a", "b", 0, 1),))
        self.refuse("z", "z", "z", ())

    def test_by_name(self):
        with self.assertRaises(InvalidPlace) as caught:
            Web(roads=None, goal=5, origin="a")
        self.assertEqual(caught.exception.given, 5)

    def test_the_origin_comes_first_the_roads_last(self):
        self.refuse("A", "A", "B", None)
        self.refuse(1, 1, 2, [])
        self.refuse("B", "a", "B", None)
        self.refuse("a", "a", "a", None)
        with self.assertRaises(InvalidRoads):
            Web("a", "b", None)


class WrongRoads(unittest.TestCase):
    def refuse(self, index, roads, origin="a", goal="b"):
        with self.assertRaises(InvalidRoads) as caught:
            Web(origin, goal, roads)
        self.assertEqual(caught.exception.index, index)
        self.assertIs(type(caught.exception.index), type(index))

    def test_no_tuple_or_empty(self):
        for value in odd_values() + [(), [("a", "b", 0, 1)], {("a", "b", 0, 1): 1}, "abcd"]:
            self.refuse(None, value)

    def test_elements_that_are_no_roads(self):
        wrong = odd_values() + [
            (), ("a",), ("a", "b"), ("a", "b", 0), ("a", "b", 0, 1, 2), ["a", "b", 0, 1], "ab01",
            ("b", "a", 0, 1), ("a", "a", 0, 1), ("A", "b", 0, 1), ("a", "B", 0, 1), ("", "b", 0, 1),
            ("a", "bb", 0, 1), (0, 1, 0, 1), (None, "b", 0, 1), ("a", None, 0, 1),
            ("a", "b", True, 1), ("a", "b", 0, False), ("a", "b", -1, 1), ("a", "b", 0, -1),
            ("a", "b", 1000001, 1), ("a", "b", 0, 1000001), ("a", "b", 10 ** 99, 1),
            ("a", "b", "0", 1), ("a", "b", 0, "1"), ("a", "b", None, 1), ("a", "b", 0, (1,)),
            (("a", "b", 0, 1),), ("a", "b", 0, Touchy()), ("a", Touchy(), 0, 1), (Touchy(),) * 4,
            ("a", Agreeing(), 0, 1), ("a", "b", Agreeing(), 1), ("a", b"b", 0, 1),
        ]
        right = ("a", "b", 0, 1)
        for value in wrong:
            for ahead in (0, 1, 7):
                self.refuse(ahead, (right,) * ahead + (value,))
                self.refuse(ahead, (right,) * ahead + (value, None, right))

    def test_the_greatest_and_least_numbers_are_right(self):
        for number in (0, 1000000):
            self.assertEqual(Web("a", "b", (("a", "b", number, number),)).roads[0][2], number)

    def test_the_first_wrong_element_counts(self):
        self.refuse(1, (("a", "b", 0, 1), ("b", "a", 0, 1), ("a", "b", 0, -1)))

    def test_a_ninth_road(self):
        right = ("a", "b", 0, 1)
        self.refuse(8, (right,) * 9)
        self.refuse(8, (right,) * 30)
        self.refuse(8, (right,) * 8 + (None,))
        self.refuse(8, (right,) * 9 + (None,))
        self.refuse(3, (right,) * 3 + (None,) + (right,) * 9)
        self.refuse(7, (right,) * 7 + (None,) * 2)

    def test_blind_ends(self):
        self.refuse(1, (("a", "b", 1, 1), ("b", "c", 1, 1)))
        self.refuse(0, (("a", "c", 1, 1), ("a", "b", 1, 1)))
        self.refuse(2, (("a", "c", 1, 1), ("b", "c", 1, 1), ("c", "d", 1, 1), ("d", "e", 1, 1)))

    def test_lone_roads(self):
        self.refuse(1, (("a", "b", 1, 1), ("x", "y", 1, 1)))
        self.refuse(0, (("x", "y", 1, 1),))
        self.refuse(0, (("a", "c", 1, 1), ("b", "d", 1, 1)))

    def test_roads_that_only_ways_with_a_place_twice_would_reach(self):
        # A round trip that hangs on the one place c.
        loop = (("a", "c", 1, 1), ("b", "c", 1, 1), ("c", "d", 1, 1), ("d", "e", 1, 1), ("c", "e", 1, 1))
        self.refuse(2, loop)
        # Two roads to the same blind place, and one from the goal on and back.
        self.refuse(1, (("a", "b", 1, 1), ("a", "c", 1, 1), ("a", "c", 1, 1)))
        self.refuse(1, (("a", "b", 1, 1), ("b", "c", 1, 1), ("b", "c", 1, 1)))

    def test_the_ends_may_be_placed_so_that_no_road_leads_to_them(self):
        self.refuse(0, (("a", "b", 1, 1),), "c", "d")
        self.refuse(0, (("a", "b", 1, 1),), "a", "c")

    def test_wrong_elements_come_ahead_of_roads_on_no_way(self):
        self.refuse(2, (("x", "y", 1, 1), ("a", "b", 1, 1), ("a", "b", 1, True)))
        self.refuse(8, (("x", "y", 1, 1),) + (("a", "b", 1, 1),) * 8)

    def test_nothing_passed_is_changed(self):
        roads = [["a", "b", 0, 1], ("a", "b", 2, 1)]
        self.refuse(None, roads)
        self.refuse(0, tuple(roads))
        self.assertEqual(roads, [["a", "b", 0, 1], ("a", "b", 2, 1)])


if __name__ == "__main__":
    unittest.main()
