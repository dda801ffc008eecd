"""Tests of wholefetch.gaps: points [5] and [6]."""

import unittest

from samples import (CHAIN, HUGE, ONE_PLACE, TREE, Thing, arrows_by_words, fetch_of, gaps_by_words, odd_things,
                     one_by_one, side_by_side, some_fetches)
from wholefetch.errors import BadFetch, BadHistory, BadNumber, BadPaper, BadQuestion
from wholefetch.gaps import check_judged, few_versions, gap, is_possible, is_ring, is_way, judged, lets, level

POSSIBLE = one_by_one(3, [(1, "newer", 0), (1, "same", 2)])
IMPOSSIBLE = side_by_side(3, [(0, "upto", 1), (1, "upto", 2), (0, "newer", 2)])
# Rings of two and of three numbers through READ 0; together they make rings of any length.
RINGS = side_by_side(3, [(0, "upto", 1), (1, "upto", 0), (1, "upto", 2), (2, "upto", 0), (0, "newer", 1)])
ASKED_WITH_A_FETCH = (is_possible, judged, level, few_versions)


class GapsTest(unittest.TestCase):

    def refused(self, kind, attribute, value, ask, *given):
        with self.assertRaises(kind) as caught:
            ask(*given)
        self.assertIs(caught.exception.__class__, kind)
        self.assertIs(getattr(caught.exception, attribute), value)

    def paper_refused(self, fetch, paper, part):
        with self.assertRaises(BadPaper) as caught:
            check_judged(fetch, paper)
        self.assertEqual(caught.exception.part, part)

    def check_ring(self, fetch, ring):
        """A RING with a STRICT ARROW, by the words of [6]."""
        told = arrows_by_words(fetch)
        steps = list(zip(ring, ring[1:]))
        self.assertTrue(steps)
        self.assertLessEqual(len(ring), 200)
        self.assertEqual(ring[0], ring[-1])
        self.assertTrue(all(step in told for step in steps))
        self.assertTrue(any(told[step] for step in steps))


class JudgedTest(GapsTest):

    def test_possible_ones(self):
        for fetch, least in ((side_by_side(1), (0,)), (side_by_side(12), (0,) * 12), (one_by_one(12), (0,) * 12),
                             (POSSIBLE, (0, 1, 1)), (side_by_side(2, [(0, "newer", 1)] * 24), (1, 0)),
                             (one_by_one(4, [(1, "newer", 0), (3, "newer", 2)]), (0, 1, 1, 2)),
                             (one_by_one(12, [(at + 1, "newer", at) for at in range(11)]), tuple(range(12)))):
            self.assertIs(is_possible(fetch), True)
            self.assertEqual(judged(fetch), ("history", least))
            self.assertEqual(level(fetch), least)
            self.assertEqual(few_versions(fetch), max(least) + 1)
            self.assertEqual(check_judged(fetch, ("history", least)), "history")

    def test_impossible_ones(self):
        rising = [(at + 1, "upto", at) for at in range(11)] + [(11, "newer", 0)]
        for fetch in (IMPOSSIBLE, RINGS, one_by_one(2, [(0, "newer", 1)]), side_by_side(12, rising),
                      side_by_side(2, [(0, "newer", 1), (0, "same", 1)]), one_by_one(12, [(0, "newer", 11)]),
                      side_by_side(2, [(0, "newer", 1), (1, "newer", 0)]),
                      fetch_of(CHAIN, [("d", 0, 3), ("a", 3, 4)], [(0, "newer", 1)])):
            word, ring = judged(fetch)
            self.assertIs(is_possible(fetch), False)
            self.assertEqual(word, "ring")
            self.check_ring(fetch, ring)
            self.assertEqual(check_judged(fetch, (word, ring)), "ring")

    def test_mirrors_that_lag_are_possible(self):
        self.assertIs(is_possible(fetch_of(CHAIN, [("a", 0, 3), ("d", 3, 4)], [(0, "newer", 1)])), True)
        self.assertIs(is_possible(fetch_of(TREE, [("left", 0, 3), ("right", 3, 4)], [(0, "newer", 1)])), True)
        self.assertIs(is_possible(fetch_of(ONE_PLACE, [("a", 0, 3), ("a", 2, 4)], [(0, "newer", 1)])), True)

    def test_an_end_that_is_just_the_begin_of_the_other_one(self):
        self.assertIs(is_possible(fetch_of(ONE_PLACE, [("a", 0, 3), ("a", 3, 4)], [(0, "newer", 1)])), False)
        self.assertIs(is_possible(fetch_of(ONE_PLACE, [("a", 0, 4), ("a", 3, 5)], [(0, "newer", 1)])), True)

    def test_large_fetches_are_judged_by_the_words(self):
        both = [False, False]
        for fetch in some_fetches(3, 500, 5, 12, 9, 24) + some_fetches(4, 200, 8, 12, 9, 6):
            word, told = judged(fetch)
            both[word == "ring"] = True
            self.assertIs(is_possible(fetch), word == "history")
            self.assertEqual(check_judged(fetch, (word, told)), word)
            if word == "ring":
                self.check_ring(fetch, told)
            else:
                many = range(len(fetch[2]))
                table = gaps_by_words(fetch)
                least = tuple(max(row[at] for row in table if row[at] is not None) for at in many)
                self.assertEqual(told, least)
                self.assertEqual(level(fetch), least)
                self.assertEqual(few_versions(fetch), 1 + max(least))
                self.assertEqual([[gap(fetch, one, other) for other in many] for one in many], table)
        self.assertEqual(both, [True, True])

    def test_asking_twice(self):
        for fetch in (POSSIBLE, IMPOSSIBLE):
            self.assertEqual(judged(fetch), judged(tuple(list(fetch))))
        self.assertEqual(level(POSSIBLE), level(POSSIBLE))


class CheckJudgedTest(GapsTest):

    def test_any_history_will_do(self):
        for history in ((0, 1, 1), (0, 99, 99), (98, 99, 99), (3, 7, 7)):
            self.assertEqual(check_judged(POSSIBLE, ("history", history)), "history")

    def test_no_history(self):
        for history in ((0, 0, 0), (1, 1, 1), (0, 1, 2), (2, 1, 1), (0, 2, 1), (99, 0, 0)):
            self.paper_refused(POSSIBLE, ("history", history), "history")
        for history in ((0, 0, 0), (0, 1, 2), (2, 1, 0)):
            self.paper_refused(IMPOSSIBLE, ("history", history), "history")

    def test_versions_to_99(self):
        one = side_by_side(1)
        self.assertEqual(check_judged(one, ("history", (0,))), "history")
        self.assertEqual(check_judged(one, ("history", (99,))), "history")
        for version in (100, -1, HUGE, -HUGE, True, False, None, "0", (0,)):
            self.paper_refused(one, ("history", (version,)), "form")

    def test_histories_that_are_none_by_form(self):
        for history in ((), (0, 1), (0, 1, 1, 1), [0, 1, 1], None, 0, "011", {0: 1}, ((0, 1, 1),)):
            self.paper_refused(POSSIBLE, ("history", history), "form")

    def test_rings(self):
        for ring in ((0, 1, 2, 0), (1, 2, 0, 1), (2, 0, 1, 2), (0, 1, 2, 0, 1, 2, 0)):
            self.check_ring(IMPOSSIBLE, ring)
            self.assertEqual(check_judged(IMPOSSIBLE, ("ring", ring)), "ring")

    def test_no_rings(self):
        for ring in ((), (0,), (0, 0), (0, 1), (0, 1, 2), (0, 2, 1, 0), (0, 1, 0), (0, 1, 2, 0, 1), (2, 2, 0, 1, 2)):
            self.paper_refused(IMPOSSIBLE, ("ring", ring), "ring")
        for ring in ((0, 1, 2, 1), (1, 2, 1), (0, 1, 0), (0, 0)):
            self.paper_refused(POSSIBLE, ("ring", ring), "ring")

    def test_a_ring_has_a_strict_arrow(self):
        self.assertEqual(check_judged(RINGS, ("ring", (0, 1, 0))), "ring")
        loose = side_by_side(3, RINGS[3][:-1])
        self.paper_refused(loose, ("ring", (0, 1, 0)), "ring")
        self.paper_refused(loose, ("ring", (0, 1, 2, 0)), "ring")
        split = side_by_side(4, [(0, "same", 1), (2, "same", 3), (2, "newer", 3)])
        self.paper_refused(split, ("ring", (0, 1, 0)), "ring")
        self.assertEqual(check_judged(split, ("ring", (3, 2, 3))), "ring")
        beside = side_by_side(3, [(0, "same", 1), (2, "newer", 0)])
        self.paper_refused(beside, ("ring", (0, 2, 0)), "ring")
        self.paper_refused(beside, ("ring", (0, 1, 0, 2)), "ring")

    def test_rings_with_up_to_200_numbers(self):
        longest = (0, 1, 2) + (0, 1) * 98 + (0,)
        self.assertEqual(len(longest), 200)
        self.assertEqual(check_judged(RINGS, ("ring", longest)), "ring")
        self.paper_refused(RINGS, ("ring", (0, 1) * 100), "ring")
        self.paper_refused(RINGS, ("ring", (0, 1) * 100 + (0,)), "form")
        self.paper_refused(RINGS, ("ring", (0,) * 5000), "form")

    def test_rings_that_are_none_by_form(self):
        for ring in ([0, 1, 2, 0], None, 0, "0120", (0, 1, 3, 0), (0, -1, 0), (0, HUGE, 0), (False, 1, 2, 0),
                     (0, True, 2, 0), (0, None, 0), (0, (1,), 0), ("0", "1"), {0: 1}):
            self.paper_refused(IMPOSSIBLE, ("ring", ring), "form")

    def test_papers_that_are_none_by_form(self):
        for fetch in (POSSIBLE, IMPOSSIBLE):
            for paper in ((), ("history",), ("ring",), ("history", (0, 1, 1), 0), ["history", (0, 1, 1)], None, "ring",
                          ("", (0, 1, 1)), ("History", (0, 1, 1)), ("apart", (0, 1, 1)), ((0, 1, 1), "history"),
                          (None, (0, 1, 1)), (b"history", (0, 1, 1)), (("ring",), (0, 1, 2, 0)), {"ring": (0, 1, 2, 0)}):
                self.paper_refused(fetch, paper, "form")

    def test_of_anything(self):
        for at, thing in enumerate(odd_things()):
            with self.subTest(at=at):
                self.paper_refused(POSSIBLE, thing, "form")
                self.paper_refused(POSSIBLE, ("history", (0, thing, 1)), "form")
                self.paper_refused(POSSIBLE, ("ring", (0, thing, 0)), "form")
                self.paper_refused(POSSIBLE, (thing, (0, 1, 1)), "form")
                self.paper_refused(POSSIBLE, ("history", thing), "form")
                empty = isinstance(thing, tuple) and len(thing) == 0
                self.paper_refused(POSSIBLE, ("ring", thing), "ring" if empty else "form")
                self.assertRaises(BadFetch, check_judged, thing, thing)

    def test_no_bad_question(self):
        self.assertEqual(check_judged(IMPOSSIBLE, judged(IMPOSSIBLE)), "ring")
        self.paper_refused(IMPOSSIBLE, ("history", (0, 0, 0)), "history")


class WayTest(GapsTest):

    def test_a_way_has_at_least_one_number_and_a_ring_two(self):
        told = ((0, 1, False), (1, 0, True), (1, 2, False))
        for way in ((0,), (2,), (0, 1), (0, 1, 0, 1, 2), (1, 2)):
            self.assertIs(is_way(told, way), True)
        for way in ((), (0, 0), (2, 1), (0, 2), (0, 1, 2, 0)):
            self.assertIs(is_way(told, way), False)
        for ring in ((0, 1, 0), (1, 0, 1), (0, 1, 0, 1, 0)):
            self.assertIs(is_ring(told, ring), True)
        for ring in ((), (0,), (0, 1), (0, 0), (0, 1, 2)):
            self.assertIs(is_ring(told, ring), False)


class GapTest(GapsTest):

    def test_gaps(self):
        fetch = one_by_one(4, [(1, "newer", 0), (3, "newer", 2)])
        expected = [[0, 1, 1, 2], [None, 0, 0, 1], [None, None, 0, 1], [None, None, None, 0]]
        self.assertEqual([[gap(fetch, one, other) for other in range(4)] for one in range(4)], expected)

    def test_to_itself(self):
        self.assertEqual(gap(side_by_side(1), 0, 0), 0)
        for fetch in (POSSIBLE, side_by_side(12, [(0, "same", 5), (5, "newer", 11)])):
            for at in range(len(fetch[2])):
                self.assertEqual(gap(fetch, at, at), 0)

    def test_no_way(self):
        self.assertIs(gap(side_by_side(2), 0, 1), None)
        self.assertIs(gap(POSSIBLE, 1, 0), None)
        self.assertIs(gap(fetch_of(CHAIN, [("a", 0, 1), ("b", 2, 3)]), 0, 1), None)
        self.assertEqual(gap(fetch_of(CHAIN, [("b", 0, 1), ("a", 2, 3)]), 0, 1), 0)

    def test_the_way_with_most_strict_arrows_counts(self):
        checks = [(3, "newer", 0), (1, "newer", 0), (2, "newer", 1), (2, "upto", 3)]
        self.assertEqual(gap(side_by_side(4, checks), 0, 3), 2)
        self.assertEqual(gap(side_by_side(4, checks + [(3, "newer", 2)]), 0, 3), 3)
        self.assertEqual(gap(side_by_side(4, checks + [(2, "same", 3)]), 0, 2), 2)
        self.assertEqual(gap(side_by_side(12, [(at + 1, "newer", at) for at in range(11)]), 0, 11), 11)

    def test_an_arrow_is_strict_if_one_is(self):
        strict, loose = (1, "newer", 0), (0, "upto", 1)
        for checks in ([strict, loose], [loose, strict], [strict] * 12 + [loose] * 12):
            self.assertEqual(gap(side_by_side(2, checks), 0, 1), 1)
        self.assertEqual(gap(side_by_side(2, [loose]), 0, 1), 0)

    def test_numbers_of_reads(self):
        for number in (3, -1, HUGE, -HUGE, True, False, None, "0", (0,), [0], b"0"):
            self.refused(BadNumber, "given", number, gap, POSSIBLE, number, 0)
            self.refused(BadNumber, "given", number, gap, POSSIBLE, 0, number)
        self.assertEqual(gap(POSSIBLE, 2, 2), 0)
        self.assertEqual(gap(one_by_one(12), 0, 11), 0)
        self.refused(BadNumber, "given", 12, gap, one_by_one(12), 0, 12)

    def test_of_anything(self):
        for at, thing in enumerate(odd_things()):
            with self.subTest(at=at):
                self.refused(BadNumber, "given", thing, gap, POSSIBLE, thing, 0)
                self.refused(BadNumber, "given", thing, gap, POSSIBLE, 0, thing)
                self.refused(BadNumber, "given", thing, gap, IMPOSSIBLE, 0, thing)

    def test_which_error_comes_first(self):
        first, second = Thing(), [0]
        self.refused(BadNumber, "given", first, gap, POSSIBLE, first, second)
        self.refused(BadNumber, "given", second, gap, POSSIBLE, second, first)
        self.refused(BadNumber, "given", first, gap, IMPOSSIBLE, first, 0)
        self.refused(BadFetch, "part", "form", gap, None, first, second)
        self.assertRaises(BadQuestion, gap, IMPOSSIBLE, 0, 1)
        self.assertRaises(BadQuestion, gap, IMPOSSIBLE, 0, 0)


class LevelTest(GapsTest):

    def test_bad_question_of_impossible_ones(self):
        for ask in (level, few_versions):
            for fetch in (IMPOSSIBLE, RINGS, one_by_one(2, [(0, "newer", 1)])):
                with self.assertRaises(BadQuestion) as caught:
                    ask(fetch)
                self.assertIs(caught.exception.__class__, BadQuestion)
                self.assertEqual(vars(caught.exception), {})

    def test_bad_fetch_first(self):
        for at, thing in enumerate(odd_things()):
            with self.subTest(at=at):
                for ask in ASKED_WITH_A_FETCH:
                    self.assertRaises(BadFetch, ask, thing)
                self.assertRaises(BadFetch, gap, thing, 0, 0)
                self.assertRaises(BadFetch, lets, thing, (0,))
                self.assertRaises(BadFetch, check_judged, thing, ("history", (0,)))

    def test_bad_fetch_tells_what_is_wrong(self):
        house, size, reads, checks = IMPOSSIBLE
        for ask, more in [(ask, ()) for ask in ASKED_WITH_A_FETCH] + [
                (gap, (None, None)), (lets, (None,)), (check_judged, (None,))]:
            for fetch, part, number in (((house, size, reads), "form", None), ((None, size, reads, checks), "house", None),
                                        ((house, 0, reads, checks), "size", None), ((house, size, (), checks), "reads", None),
                                        ((house, size, reads + (5,), checks), "reads", 3),
                                        ((house, size, reads, checks * 9), "checks", None),
                                        ((house, size, reads, checks + (5,)), "checks", 3)):
                with self.assertRaises(BadFetch) as caught:
                    ask(fetch, *more)
                self.assertEqual((caught.exception.part, caught.exception.number), (part, number))


class LetsTest(GapsTest):

    def test_histories(self):
        for history in ((0, 1, 1), (0, 99, 99), (98, 99, 99)):
            self.assertIs(lets(POSSIBLE, history), True)
        for history in ((0, 0, 0), (0, 1, 2), (1, 0, 0), (99, 99, 99), (0, 2, 1)):
            self.assertIs(lets(POSSIBLE, history), False)

    def test_impossible_ones_let_none(self):
        for history in ((0, 0, 0), (0, 1, 2), (2, 1, 0), (99, 0, 99)):
            self.assertIs(lets(IMPOSSIBLE, history), False)

    def test_versions_to_99(self):
        self.assertIs(lets(side_by_side(2, [(0, "newer", 1)]), (99, 0)), True)
        for history in ((100, 0), (0, 100), (0, -1), (HUGE, 0), (-HUGE, 0), (True, 0), (1, False), (None, 0), ("1", "0"),
                        (), (1,), (1, 0, 0), [1, 0], None, "10", {1: 0}, ((1, 0),)):
            self.refused(BadHistory, "given", history, lets, side_by_side(2), history)

    def test_of_anything(self):
        for at, thing in enumerate(odd_things()):
            with self.subTest(at=at):
                self.refused(BadHistory, "given", thing, lets, POSSIBLE, thing)
                self.refused(BadHistory, "given", thing, lets, IMPOSSIBLE, thing)
                history = (0, thing, 1)
                self.refused(BadHistory, "given", history, lets, POSSIBLE, history)

    def test_what_is_passed_is_not_changed(self):
        given = [0, 1, 1]
        self.refused(BadHistory, "given", given, lets, POSSIBLE, given)
        self.assertEqual(given, [0, 1, 1])


if __name__ == "__main__":
    unittest.main()
