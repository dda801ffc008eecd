"""Tests of wholefetch.likeness: point [11]."""

import random
import unittest

from samples import (ALL_HOUSES, CHAIN, ONE_PLACE, Asking, are_numbers, arrows_by_words, fetch_of, follow,
                     gaps_by_words, histories, is_history, is_possible_by_words, odd_things, one_by_one, side_by_side,
                     some_checks, some_fetches)
from wholefetch.errors import BadFetch, BadQuestion
from wholefetch.likeness import alike, lean, needless, parted

HALVES = [(0, "upto", 1), (1, "upto", 0)]
IMPOSSIBLE = side_by_side(2, [(0, "newer", 1), (1, "newer", 0)])


def follows(fetch, versions):
    """Whether versions follow the ARROWs."""
    return all(versions[a] + strict <= versions[b] for (a, b), strict in arrows_by_words(fetch).items())


def without(fetch, at):
    """The FETCH without a CHECK."""
    return fetch[:3] + (fetch[3][:at] + fetch[3][at + 1:],)


def gaps_or_none(fetch):
    """What FETCHes are ALIKE by, by the Fact of [11]."""
    return gaps_by_words(fetch) if is_possible_by_words(fetch) else None


def needless_by(likeness, fetch):
    """The NEEDLESS CHECKs, likeness being what is the same of FETCHes that are ALIKE."""
    right = likeness(fetch)
    return tuple(at for at in range(len(fetch[3])) if likeness(without(fetch, at)) == right)


def lean_by(likeness, fetch):
    """The LEAN form by the words of [11]."""
    told = needless_by(likeness, fetch)
    while told:
        fetch = without(fetch, told[0])
        told = needless_by(likeness, fetch)
    return fetch


class AlikeTest(Asking):

    def hold(self, one, other, right):
        """Holds what is told of two FETCHes that are ALIKE or not, both ways about."""
        for first, second in ((one, other), (other, one)):
            self.assertIs(alike(first, second), right)
            history = parted(first, second)
            self.assertEqual(parted(first, second), history)
            if right:
                self.assertIsNone(history)
            else:
                self.assertTrue(are_numbers(history, 99))
                self.assertEqual(len(history), len(first[2]))
                self.assertEqual([follows(first, history), follows(second, history)].count(True), 1)

    def test_alike(self):
        same, halves = side_by_side(3, [(0, "same", 1)]), side_by_side(3, HALVES)
        self.hold(same, halves, True)
        self.hold(same, same, True)
        self.hold(side_by_side(1), side_by_side(1), True)
        self.hold(side_by_side(3, [(0, "upto", 1), (1, "upto", 2)]),
                  side_by_side(3, [(1, "upto", 2), (0, "upto", 2), (0, "upto", 1)]), True)
        self.hold(side_by_side(3, [(1, "newer", 0), (1, "upto", 2), (0, "upto", 2)]),
                  side_by_side(3, [(1, "newer", 0), (1, "upto", 2), (2, "newer", 0)]), True)

    def test_other_houses_moments_sizes_and_bytes(self):
        row = one_by_one(3)
        self.hold(row, side_by_side(3, [(0, "upto", 1), (1, "upto", 2)]), True)
        self.hold(row, fetch_of(CHAIN, [("d", 0, 3), ("c", 7, 8), ("a", 500, 9999)]), True)
        self.hold(row, fetch_of(CHAIN, [("a", 0, 3), ("c", 7, 8), ("d", 500, 9999)]), False)
        self.hold(row, (ONE_PLACE, 5, (("a", 0, 1, 0, 5), ("a", 1, 2, 0, 5), ("a", 2, 3, 4, 5)), ()), True)

    def test_not_alike(self):
        plain = side_by_side(3)
        for checks in ([(0, "same", 1)], [(0, "upto", 1)], [(1, "newer", 0)], [(2, "upto", 1)], [(0, "same", 2)]):
            self.hold(plain, side_by_side(3, checks), False)
        self.hold(side_by_side(3, [(0, "upto", 1)]), side_by_side(3, [(1, "upto", 0)]), False)
        self.hold(side_by_side(3, [(0, "upto", 1)]), side_by_side(3, [(0, "same", 1)]), False)
        self.hold(side_by_side(3, [(0, "upto", 1)]), side_by_side(3, [(1, "newer", 0)]), False)
        # Alike in all WAYs, and unlike just in how many STRICT ARROWs these have.
        row = [(1, "newer", 0), (2, "newer", 1)]
        self.hold(side_by_side(3, row), side_by_side(3, [(0, "upto", 1), (1, "upto", 2), (2, "newer", 0)]), False)
        self.hold(side_by_side(3, [(1, "newer", 0), (1, "upto", 2)]), side_by_side(3, row), False)
        long = [(at + 1, "newer", at) for at in range(11)]
        self.hold(side_by_side(12, long), side_by_side(12, long[:10] + [(10, "upto", 11)]), False)
        self.hold(side_by_side(12, long), side_by_side(12, [(0, "upto", 1)] + long[1:]), False)
        self.hold(side_by_side(12, long), side_by_side(12, long[::-1]), True)

    def test_impossible_ones(self):
        other = side_by_side(2, [(0, "newer", 1), (0, "same", 1)])
        self.hold(IMPOSSIBLE, other, True)
        self.hold(IMPOSSIBLE, one_by_one(2, [(0, "newer", 1)]), True)
        self.hold(IMPOSSIBLE, side_by_side(2), False)
        self.hold(IMPOSSIBLE, side_by_side(2, [(0, "newer", 1)]), False)
        self.hold(IMPOSSIBLE, side_by_side(2, [(1, "newer", 0)]), False)
        self.hold(side_by_side(3, [(0, "newer", 1), (1, "newer", 0)]), side_by_side(3, [(0, "newer", 1)]), False)

    def test_small_fetches_by_what_places_show(self):
        said = [0, 0]
        fetches = some_fetches(51, 60, 2, 2, 3, 3) + some_fetches(52, 60, 3, 3, 3, 2)
        sets = [histories(fetch, len(fetch[2])) for fetch in fetches]
        for one, mine in zip(fetches, sets):
            for other, theirs in list(zip(fetches, sets))[::7]:
                if len(one[2]) == len(other[2]):
                    right = mine == theirs
                    self.assertIs(alike(one, other), right)
                    history = parted(one, other)
                    self.assertIs(history is None, right)
                    if not right:
                        self.assertNotEqual(is_history(one, history), is_history(other, history))
                    said[right] += 1
        self.assertGreater(min(said), 30)

    def test_large_fetches(self):
        chance = random.Random(53)
        said = [0, 0]
        for fetch in some_fetches(54, 120, 4, 12, 12, 12, ALL_HOUSES):
            house, size, reads, checks = fetch
            others = [fetch, (house, size, reads, tuple(some_checks(chance, len(reads), 3)))]
            for at in range(len(checks)):
                one, word, two = checks[at]
                fewer = without(fetch, at)
                others += [fewer, fewer[:3] + (fewer[3] + ((two, word, one),),)]
                others.append(fewer[:3] + (fewer[3] + ((one, chance.choice(("same", "upto", "newer")), two),),))
            for other in others:
                right = gaps_or_none(fetch) == gaps_or_none(other)
                self.hold(fetch, other, right)
                said[right] += 1
        self.assertGreater(min(said), 200)


class NeedlessTest(Asking):

    def hold(self, fetch, told, left):
        """Holds what is told of the NEEDLESS CHECKs, and which CHECKs the LEAN form has."""
        self.assertEqual(needless(fetch), told)
        self.assertEqual(needless(fetch), told)
        thin = lean(fetch)
        self.assertEqual(thin, fetch[:3] + (tuple(left),))
        self.assertEqual(lean(fetch), thin)
        self.assertEqual(lean(thin), thin)
        self.assertEqual(needless(thin), ())
        self.assertIs(alike(fetch, thin), True)

    def test_checks_told_twice(self):
        for check in ((0, "upto", 1), (0, "newer", 1), (0, "same", 1)):
            self.hold(side_by_side(2, [check]), (), [check])
            self.hold(side_by_side(2, [check] * 2), (0, 1), [check])
            self.hold(side_by_side(2, [check] * 24), tuple(range(24)), [check])
        self.hold(side_by_side(2, [(0, "same", 1), (1, "same", 0)]), (0, 1), [(1, "same", 0)])

    def test_same_beside_its_halves(self):
        same = [(0, "same", 1)]
        self.hold(side_by_side(2, HALVES), (), HALVES)
        self.hold(side_by_side(2, same + HALVES), (0, 1, 2), HALVES)
        self.hold(side_by_side(2, HALVES + same), (0, 1, 2), same)
        self.hold(side_by_side(2, HALVES[:1] + same), (0,), same)
        self.hold(side_by_side(2, HALVES[:1] + same + HALVES[1:]), (0, 1, 2), same)
        self.hold(side_by_side(2, same + HALVES[:1]), (1,), same)

    def test_checks_that_follow(self):
        upto = [(0, "upto", 1), (1, "upto", 2), (0, "upto", 2)]
        self.hold(side_by_side(3, upto), (2,), upto[:2])
        self.hold(side_by_side(3, upto[::-1]), (0,), upto[1::-1])
        self.hold(one_by_one(3, upto), (0, 1, 2), [])
        self.hold(one_by_one(3, [(1, "newer", 0), (2, "newer", 0)]), (1,), [(1, "newer", 0)])
        self.hold(one_by_one(3, [(2, "newer", 0), (2, "newer", 1)]), (0,), [(2, "newer", 1)])
        self.hold(one_by_one(2, [(0, "same", 1)]), (), [(0, "same", 1)])
        self.hold(side_by_side(2, [(0, "newer", 1), (1, "upto", 0)]), (1,), [(0, "newer", 1)])
        two = [(1, "newer", 0), (2, "newer", 1), (2, "newer", 0)]
        self.hold(side_by_side(3, two), (2,), two[:2])
        self.hold(side_by_side(1), (), [])
        self.hold(fetch_of(CHAIN, [("d", 0, 1), ("a", 1, 2)], [(0, "upto", 1)]), (0,), [])
        self.hold(fetch_of(CHAIN, [("a", 0, 1), ("d", 1, 2)], [(0, "upto", 1)]), (), [(0, "upto", 1)])

    def test_a_ring_of_same(self):
        ring = [(0, "same", 1), (1, "same", 2), (2, "same", 0)]
        self.hold(side_by_side(3, ring), (0, 1, 2), ring[1:])

    def test_impossible_fetches(self):
        self.hold(IMPOSSIBLE, (), [(0, "newer", 1), (1, "newer", 0)])
        newer = (0, "newer", 1)
        self.hold(one_by_one(2, [newer]), (), [newer])
        self.hold(one_by_one(2, [newer, newer]), (0, 1), [newer])
        self.hold(one_by_one(3, [(1, "upto", 0), (0, "newer", 2), (0, "newer", 1)]), (0, 1, 2), [(0, "newer", 1)])
        three = [(0, "newer", 1), (0, "same", 1), (1, "newer", 0), (0, "upto", 2)]
        self.hold(side_by_side(3, three), (0, 1, 2, 3), three[1:3])

    def test_small_fetches_by_what_places_show(self):
        held = set()
        for fetch in some_fetches(55, 60, 2, 3, 3, 3):
            top = len(fetch[2])

            def likeness(told):
                return histories(told, top)

            self.hold(fetch, needless_by(likeness, fetch), lean_by(likeness, fetch)[3])
            held.add(len(needless(fetch)))
        self.assertGreaterEqual(held, {0, 1, 2})

    def test_fetches_of_four_reads_by_all_tuples(self):
        for fetch in some_fetches(56, 40, 4, 4, 5, 6):
            def likeness(told):
                return follow(told, 3)

            self.hold(fetch, needless_by(likeness, fetch), lean_by(likeness, fetch)[3])

    def test_large_fetches_by_gaps(self):
        for fetch in some_fetches(57, 25, 5, 12, 12, 24, ALL_HOUSES):
            self.hold(fetch, needless_by(gaps_or_none, fetch), lean_by(gaps_or_none, fetch)[3])


class RefusalsTest(Asking):

    def test_bad_fetch_first(self):
        for ask in (needless, lean):
            self.refuses_fetches(ask)
        for ask in (alike, parted):
            self.refuses_fetches(ask, side_by_side(3))
            self.refuses_fetches(ask, side_by_side(2))
            self.refuses_fetches(lambda fetch: ask(side_by_side(3), fetch))
            self.refuses_fetches(lambda fetch: ask(IMPOSSIBLE, fetch))

    def test_the_first_bad_fetch(self):
        house, size, reads, checks = IMPOSSIBLE
        for ask in (alike, parted):
            for thing in odd_things():
                self.refused(BadFetch, {"part": "size", "number": None}, ask, (house, 0, reads, checks), thing)
                self.assertRaises(BadFetch, ask, thing, (house, 0, reads, checks))
            self.refused(BadFetch, {"part": "reads", "number": 1}, ask, (house, 1, reads, checks), (house, 0, reads, ()))
            self.refused(BadFetch, {"part": "size", "number": None}, ask, IMPOSSIBLE, (house, 0, reads, ()))

    def test_unlike_numbers_of_reads(self):
        for ask in (alike, parted):
            for one, other in ((1, 2), (2, 1), (3, 12), (12, 11)):
                self.refused(BadQuestion, {}, ask, side_by_side(one), side_by_side(other))
            self.refused(BadQuestion, {}, ask, IMPOSSIBLE, side_by_side(3))
            self.refused(BadQuestion, {}, ask, side_by_side(1), IMPOSSIBLE)
            self.refused(BadQuestion, {}, ask, side_by_side(3, [(0, "newer", 1), (1, "newer", 0)]), IMPOSSIBLE)


if __name__ == "__main__":
    unittest.main()
