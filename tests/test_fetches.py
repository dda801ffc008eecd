"""Tests of wholefetch.fetches: points [3] and [5]."""

import unittest

from samples import (CHAIN, FULL, HOUSES, HUGE, ONE_PLACE, TREE, WORDS, arrows_by_words, fetch_of, odd_things,
                     one_by_one, side_by_side, some_fetches)
from wholefetch.errors import BadFetch
from wholefetch.fetches import arrows, need_fetch

READ = ("a", 0, 1, 0, 1)
PLAIN = (ONE_PLACE, 1, (READ, READ), ((0, "same", 1),))


def with_part(at, part):
    """The plain FETCH with another part."""
    return PLAIN[:at] + (part,) + PLAIN[at + 1:]


class Refused(unittest.TestCase):

    def refused(self, thing, part, number):
        for ask in (need_fetch, arrows):
            with self.assertRaises(BadFetch) as caught:
                ask(thing)
            self.assertIs(caught.exception.__class__, BadFetch)
            self.assertEqual((caught.exception.part, caught.exception.number), (part, number))


class NeedFetchTest(Refused):

    def test_fetches_are_told_themselves(self):
        for fetch in [PLAIN, side_by_side(1), one_by_one(12), *some_fetches(1, 50, 1, 12, 9, 24)]:
            self.assertIs(need_fetch(fetch), fetch)

    def test_no_tuple_of_four(self):
        for thing in ((), PLAIN[:3], PLAIN + ((),), list(PLAIN), None, 4, "abcd", {}, (PLAIN,), (PLAIN,) * 3):
            self.refused(thing, "form", None)

    def test_no_house(self):
        for house, number in (((), None), ([("a", None)], None), (None, None), (tuple((x, None) for x in "abcde"), None),
                              ((("a", 1),), 0), ((("a", None), ("a", None)), 1), ((("a", "b"),), 0),
                              ((("a", "b"), ("b", "b")), 1), ((("a", "b"), ("b", "a")), 0)):
            self.refused(with_part(0, house), "house", number)

    def test_size(self):
        for size in (1, 2, 999999999, 1000000000):
            self.assertTrue(need_fetch(with_part(1, size)))
        for size in (0, -1, 1000000001, HUGE, -HUGE, True, False, None, "1", (1,), [1]):
            self.refused(with_part(1, size), "size", None)

    def test_how_many_reads(self):
        for many in range(1, 13):
            self.assertTrue(need_fetch((ONE_PLACE, 1, (READ,) * many, ())))
        for reads in ((), (READ,) * 13, [READ], None, 1, {0: READ}, "read"):
            self.refused((ONE_PLACE, 1, reads, ()), "reads", None)

    def test_a_read_is_a_tuple_of_five(self):
        for read in (READ[:4], READ + (1,), list(READ), (), None, "aaaaa", 5, (READ,)):
            self.refused((ONE_PLACE, 1, (read,), ()), "reads", 0)
            self.refused((ONE_PLACE, 1, (READ, READ, read), ()), "reads", 2)

    def test_place_of_a_read(self):
        for place, begin, end, start, stop in ((x, 0, 1, 0, 1) for x in ("b", "", "A", None, 0, ("a",), ["a"], b"a")):
            self.refused((ONE_PLACE, 1, (READ, (place, begin, end, start, stop)), ()), "reads", 1)
        for name, of in FULL:
            self.assertTrue(need_fetch((FULL, 1, ((name, 0, 1, 0, 1),), ())))

    def test_moments_of_a_read(self):
        for begin, end in ((0, 1), (0, 9999), (9998, 9999), (17, 400)):
            self.assertTrue(need_fetch((ONE_PLACE, 1, (("a", begin, end, 0, 1),), ())))
        for begin, end in ((0, 0), (1, 0), (9999, 9999), (-1, 1), (0, 10000), (9999, 10000), (-HUGE, HUGE), (False, 1),
                           (0, True), (None, 1), (0, None), ("0", "1"), ((0,), (1,)), (0, [1])):
            self.refused((ONE_PLACE, 1, (("a", begin, end, 0, 1),), ()), "reads", 0)

    def test_bytes_of_a_read(self):
        for start, stop in ((0, 1), (0, 7), (6, 7), (2, 5)):
            self.assertTrue(need_fetch((ONE_PLACE, 7, (("a", 0, 1, start, stop),), ())))
        for start, stop in ((0, 0), (1, 0), (7, 7), (-1, 1), (0, 8), (7, 8), (-HUGE, HUGE), (False, 1), (0, True),
                            (None, 1), (0, None), ("0", "1"), ((0,), (1,)), (0, [1])):
            self.refused((ONE_PLACE, 7, (READ, ("a", 0, 1, start, stop)), ()), "reads", 1)
        most = 1000000000
        self.assertTrue(need_fetch((ONE_PLACE, most, (("a", 0, 1, most - 1, most),), ())))
        self.refused((ONE_PLACE, most, (("a", 0, 1, most - 1, most + 1),), ()), "reads", 0)

    def test_how_many_checks(self):
        check = (0, "upto", 1)
        for many in (0, 1, 24):
            self.assertTrue(need_fetch(with_part(3, (check,) * many)))
        for checks in ((check,) * 25, [check], [], None, 0, {}, "check"):
            self.refused(with_part(3, checks), "checks", None)

    def test_checks(self):
        for word in WORDS:
            for one, other in ((0, 1), (1, 0)):
                self.assertTrue(need_fetch(with_part(3, ((one, word, other),))))
        for check in ((0, "same"), (0, "same", 1, 1), [0, "same", 1], (), None, "abc", (0, "same", 0), (1, "newer", 1),
                      (0, "same", 2), (2, "same", 0), (-1, "same", 0), (0, "same", -1), (False, "same", 1),
                      (0, "same", True), (0, "older", 1), (0, "Same", 1), (0, "", 1), (0, None, 1), (0, ("same",), 1),
                      (0, 0, 1), (None, "same", 1), ("0", "same", "1"), (0, "same", HUGE), ("same", 0, 1), (0, b"same", 1)):
            self.refused(with_part(3, (check,)), "checks", 0)
            self.refused(with_part(3, ((0, "newer", 1), (1, "newer", 0), check, None)), "checks", 2)

    def test_checks_know_how_many_reads_there_are(self):
        self.assertTrue(need_fetch(side_by_side(12, [(0, "same", 11)])))
        self.refused(side_by_side(11, [(0, "same", 11)]), "checks", 0)
        self.refused(side_by_side(1, [(0, "same", 0)]), "checks", 0)
        self.refused(side_by_side(1, [(0, "same", 1)]), "checks", 0)

    def test_of_two_faults_the_one_named_first(self):
        self.refused((None, None, None, None), "house", None)
        self.refused((ONE_PLACE, None, None, None), "size", None)
        self.refused((ONE_PLACE, 1, None, None), "reads", None)
        self.refused((ONE_PLACE, 1, (None,), None), "reads", 0)
        self.refused((ONE_PLACE, 1, (READ,), None), "checks", None)
        self.refused((ONE_PLACE, 1, (READ, None, 5), ((9, 9, 9),)), "reads", 1)
        self.refused(((("a", "a"),), 0, (), ()), "house", 0)
        self.refused((None, None, None), "form", None)
        self.refused(with_part(3, (None,) * 25), "checks", None)
        self.refused(with_part(2, (None,) * 13), "reads", None)

    def test_of_anything(self):
        for at, thing in enumerate(odd_things()):
            with self.subTest(at=at):
                self.assertRaises(BadFetch, need_fetch, thing)
                self.assertRaises(BadFetch, arrows, thing)
                self.refused(with_part(1, thing), "size", None)
                for spot in range(5):
                    self.refused(with_part(2, (READ, READ[:spot] + (thing,) + READ[spot + 1:])), "reads", 1)
                for spot in range(3):
                    check = (0, "same", 1)
                    self.refused(with_part(3, (check[:spot] + (thing,) + check[spot + 1:],)), "checks", 0)
                self.refused(with_part(2, (READ, thing)), "reads", 1)
                self.refused(with_part(3, ((0, "upto", 1), thing)), "checks", 1)
                for spot, part in ((0, "house"), (2, "reads")):
                    with self.assertRaises(BadFetch) as caught:
                        need_fetch(with_part(spot, thing))
                    self.assertEqual(caught.exception.part, part)
                if not (isinstance(thing, tuple) and len(thing) == 0):
                    with self.assertRaises(BadFetch) as caught:
                        need_fetch(with_part(3, thing))
                    self.assertEqual(caught.exception.part, "checks")

    def test_what_is_passed_is_not_changed(self):
        given = [list(ONE_PLACE), 1, [list(READ)], []]
        self.refused(given, "form", None)
        self.refused((ONE_PLACE, 1, given[2], given[3]), "reads", None)
        self.assertEqual(given, [[("a", None)], 1, [["a", 0, 1, 0, 1]], []])


class ArrowsTest(Refused):

    def test_no_arrows(self):
        self.assertEqual(arrows(side_by_side(1)), ())
        self.assertEqual(arrows(side_by_side(12)), ())
        self.assertEqual(arrows(fetch_of(ONE_PLACE, [("a", 0, 5), ("a", 4, 9)])), ())

    def test_reads_one_behind_the_other(self):
        told = arrows(one_by_one(3))
        self.assertEqual(told, ((0, 1, False), (0, 2, False), (1, 2, False)))
        told = arrows(fetch_of(ONE_PLACE, [("a", 7, 9), ("a", 0, 2)]))
        self.assertEqual(told, ((1, 0, False),))

    def test_an_end_that_is_just_the_begin_of_the_other_one(self):
        self.assertEqual(arrows(fetch_of(ONE_PLACE, [("a", 0, 5), ("a", 5, 6)])), ((0, 1, False),))
        self.assertEqual(arrows(fetch_of(ONE_PLACE, [("a", 0, 5), ("a", 6, 7)])), ((0, 1, False),))
        self.assertEqual(arrows(fetch_of(ONE_PLACE, [("a", 0, 6), ("a", 5, 7)])), ())

    def test_like_reads_have_no_arrow(self):
        self.assertEqual(arrows((ONE_PLACE, 1, (READ, READ), ())), ())

    def test_mirrors_lead_up_alone(self):
        for below, above in (("b", "a"), ("c", "a"), ("d", "a"), ("c", "b"), ("d", "b"), ("d", "c")):
            self.assertEqual(arrows(fetch_of(CHAIN, [(below, 0, 1), (above, 1, 2)])), ((0, 1, False),))
            self.assertEqual(arrows(fetch_of(CHAIN, [(above, 0, 1), (below, 1, 2)])), ())
        self.assertEqual(arrows(fetch_of(TREE, [("left", 0, 1), ("right", 1, 2), ("lone", 2, 3)])), ())
        self.assertEqual(arrows(fetch_of(TREE, [("hub", 1, 2), ("right", 0, 1)])), ((1, 0, False),))

    def test_what_checks_bring(self):
        self.assertEqual(arrows(side_by_side(2, [(0, "same", 1)])), ((0, 1, False), (1, 0, False)))
        self.assertEqual(arrows(side_by_side(2, [(1, "same", 0)])), ((0, 1, False), (1, 0, False)))
        self.assertEqual(arrows(side_by_side(2, [(0, "upto", 1)])), ((0, 1, False),))
        self.assertEqual(arrows(side_by_side(2, [(0, "newer", 1)])), ((1, 0, True),))

    def test_strict_by_one_check_and_not_by_another(self):
        strict, loose, same = (1, "newer", 0), (0, "upto", 1), (0, "same", 1)
        for checks in ([strict, loose], [loose, strict], [strict, strict], [loose, strict, loose]):
            self.assertEqual(arrows(side_by_side(2, checks)), ((0, 1, True),))
        for checks in ([strict, same], [same, strict], [same, strict, same]):
            self.assertEqual(arrows(side_by_side(2, checks)), ((0, 1, True), (1, 0, False)))
        self.assertEqual(arrows(side_by_side(2, [strict, (0, "newer", 1)])), ((0, 1, True), (1, 0, True)))
        self.assertEqual(arrows(one_by_one(2, [strict])), ((0, 1, True),))
        self.assertEqual(arrows(one_by_one(2, [loose])), ((0, 1, False),))

    def test_like_checks_and_bytes_do_not_matter(self):
        check = (2, "newer", 0)
        self.assertEqual(arrows(side_by_side(3, [check])), arrows(side_by_side(3, [check] * 24)))
        fetch = (CHAIN, 50, (("d", 0, 1, 0, 50), ("a", 3, 4, 0, 50)), ())
        self.assertEqual(arrows(fetch), arrows(fetch_of(CHAIN, [("d", 0, 1), ("a", 3, 4)])))

    def test_they_ascend_and_are_as_the_words_of_the_document(self):
        for fetch in some_fetches(2, 400, 1, 12, 9, 24):
            told = arrows(fetch)
            self.assertIsInstance(told, tuple)
            self.assertEqual(told, tuple((*pair, strict) for pair, strict in sorted(arrows_by_words(fetch).items())))
            for one, other, strict in told:
                self.assertIsInstance(strict, bool)
                self.assertNotEqual(one, other)

    def test_asking_twice(self):
        for house in HOUSES:
            fetch = fetch_of(house, [(name, at, at + 2) for at, (name, of) in enumerate(house)])
            self.assertEqual(arrows(fetch), arrows(tuple(list(fetch))))


if __name__ == "__main__":
    unittest.main()
