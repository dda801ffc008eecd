"""Tests of wholefetch.houses: point [2]."""

import unittest

from samples import CHAIN, FULL, HOUSES, HUGE, ONE_PLACE, TREE, Thing, nested, odd_things
from wholefetch.errors import BadHouse, BadNumber
from wholefetch.houses import is_under, need_house


class NeedHouseTest(unittest.TestCase):

    def refused(self, thing, number):
        with self.assertRaises(BadHouse) as caught:
            need_house(thing)
        self.assertIs(caught.exception.__class__, BadHouse)
        self.assertEqual(caught.exception.number, number)

    def test_houses_are_told_themselves(self):
        for house in [CHAIN, TREE, FULL, *HOUSES]:
            self.assertIs(need_house(house), house)

    def test_an_of_may_stand_behind_ahead_or_be_shared(self):
        for house in ((("a", "b"), ("b", "c"), ("c", "d"), ("d", None)),
                      (("a", "c"), ("b", "c"), ("c", None), ("d", "c")),
                      (("a", None), ("aa", "b"), ("b", "a"))):
            self.assertIs(need_house(house), house)

    def test_no_tuple_of_one_to_four(self):
        five = tuple((name, None) for name in "abcde")
        self.assertEqual(need_house(five[:4]), five[:4])
        for thing in ((), five, [("a", None)], list(five), {"a": None}, "a", None, 1, five * 1000):
            self.refused(thing, None)

    def test_items_that_are_no_pairs(self):
        for item in (("a",), ("a", None, None), ["a", None], "ab", (), None, {"a": None}, ("a", "b", "c")):
            self.refused((item,), 0)
            self.refused((("a", None), item, ("c", None)), 1)

    def test_names_have_one_to_eight_signs_a_to_z(self):
        self.assertTrue(need_house((("abcdefgh", None), ("z", "abcdefgh"))))
        for name in ("", "abcdefghi", "A", "aB", "a1", "a b", " a", "a\n", "a-", "`", "{", b"a", None, 1, ("a",), ["a"]):
            self.refused(((name, None),), 0)
            self.refused((("a", None), (name, None)), 1)
        for of in ("", "abcdefghi", "A", "a ", 1, 0, False, True, b"a", ("a",), (), ["a"]):
            self.refused((("a", None), ("b", of)), 1)

    def test_places_ascend(self):
        self.refused((("a", None), ("a", None)), 1)
        self.refused((("b", None), ("a", None)), 1)
        self.refused((("a", None), ("c", None), ("b", None)), 2)
        self.refused((("ab", None), ("a", None)), 1)
        self.refused((("b", None), ("ab", None)), 1)
        self.assertTrue(need_house((("a", None), ("ab", None), ("b", None), ("ba", None))))

    def test_an_of_is_a_place_of_the_house(self):
        self.refused((("a", "b"),), 0)
        self.refused((("a", None), ("b", "c")), 1)
        self.refused((("a", None), ("b", "x"), ("c", "y")), 1)

    def test_a_place_that_is_its_own_of(self):
        self.refused((("a", "a"),), 0)
        self.refused((("a", None), ("b", "b")), 1)
        self.refused((("a", None), ("b", "a"), ("c", None), ("d", "d")), 3)

    def test_rings_of_places(self):
        self.refused((("a", "b"), ("b", "a")), 0)
        self.refused((("a", None), ("b", "c"), ("c", "b")), 1)
        self.refused((("a", "b"), ("b", "c"), ("c", "d"), ("d", "a")), 0)
        self.refused((("a", "d"), ("b", "a"), ("c", None), ("d", "b")), 0)

    def test_a_place_that_only_leads_into_a_ring_does_not_come_back_to_itself(self):
        self.refused((("a", "b"), ("b", "c"), ("c", "b")), 1)
        self.refused((("a", "b"), ("b", "b")), 1)
        self.refused((("a", "b"), ("b", "c"), ("c", "d"), ("d", "d")), 3)
        self.refused((("a", "c"), ("b", "c"), ("c", "d"), ("d", "c")), 2)

    def test_of_two_faults_the_one_named_first(self):
        self.refused((("a", "a"), ("b", "x")), 1)
        self.refused((("a", "x"), ("a", None)), 1)
        self.refused((("a", "a"), ("b", "x"), ("b", None)), 2)
        self.refused((("a", "x"), ("b", "b"), ("c", 5)), 2)
        self.refused((("a", "b"), ("b", "a"), ("c", "x")), 2)
        self.refused((("b", None), ("a", None), ("A", None)), 1)
        self.refused((5, ("a", "a"), ("b", "x"), ("c", None), ("d", None)), None)

    def test_of_anything(self):
        for at, thing in enumerate(odd_things()):
            with self.subTest(at=at):
                self.assertRaises(BadHouse, need_house, thing)
                self.refused(((thing, None),), 0)
                self.refused((("a", None), thing), 1)
                if thing is not None:
                    self.refused((("a", None), ("b", thing)), 1)

    def test_asking_twice_and_nothing_changed(self):
        given = [["a", None], ("b", "a")]
        self.refused(given, None)
        self.refused(tuple(given), 0)
        self.assertEqual(given, [["a", None], ("b", "a")])
        self.assertIs(need_house(CHAIN), need_house(CHAIN))


class IsUnderTest(unittest.TestCase):

    def refused(self, house, place, other, given):
        with self.assertRaises(BadNumber) as caught:
            is_under(house, place, other)
        self.assertIs(caught.exception.__class__, BadNumber)
        self.assertIs(caught.exception.given, given)

    def test_mirrors_of_mirrors(self):
        for at, place in enumerate("abcd"):
            for by, other in enumerate("abcd"):
                self.assertIs(is_under(CHAIN, place, other), by <= at)

    def test_a_tree(self):
        under = {("left", "hub"), ("right", "hub")}
        names = [name for name, of in TREE]
        for place in names:
            for other in names:
                self.assertIs(is_under(TREE, place, other), place == other or (place, other) in under)

    def test_one_place_is_under_itself(self):
        self.assertIs(is_under(ONE_PLACE, "a", "a"), True)
        self.assertIs(is_under(ONE_PLACE, "".join(["a"]), "a"), True)

    def test_what_is_no_place_of_the_house(self):
        for thing in ("b", "", "A", "aa", "a" * 20000, None, 0, True, HUGE, ("a",), ["a"], b"a"):
            self.refused(ONE_PLACE, thing, "a", thing)
            self.refused(ONE_PLACE, "a", thing, thing)

    def test_of_anything(self):
        for at, thing in enumerate(odd_things()):
            with self.subTest(at=at):
                self.refused(CHAIN, thing, "a", thing)
                self.refused(CHAIN, "a", thing, thing)
                self.assertRaises(BadHouse, is_under, thing, "a", "a")

    def test_of_two_faults_the_one_named_first(self):
        first, second = Thing(), nested(lambda thing: (thing,))
        self.refused(CHAIN, first, second, first)
        self.refused(CHAIN, second, first, second)
        with self.assertRaises(BadHouse) as caught:
            is_under((("a", "a"),), first, second)
        self.assertEqual(caught.exception.number, 0)
        with self.assertRaises(BadHouse) as caught:
            is_under(None, first, "a")
        self.assertIs(caught.exception.number, None)


if __name__ == "__main__":
    unittest.main()
