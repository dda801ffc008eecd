"""Small fetches held against all tuples of small versions, by the words of [4] and [5]."""

import unittest

from samples import CHAIN, ONE_PLACE, TREE, fetch_of, gap_by_words, histories, side_by_side, some_fetches
from wholefetch.errors import BadPaper, BadQuestion
from wholefetch.gaps import check_judged, few_versions, gap, is_possible, judged, lets, level

NAMED = (
    fetch_of(ONE_PLACE, [("a", 0, 2), ("a", 2, 4), ("a", 1, 3)]),
    fetch_of(ONE_PLACE, [("a", 0, 1), ("a", 0, 1), ("a", 0, 1)]),
    fetch_of(ONE_PLACE, [("a", 0, 1), ("a", 0, 1), ("a", 1, 2)], [(1, "newer", 0), (2, "upto", 0)]),
    fetch_of((("a", None), ("b", "a")), [("b", 0, 2), ("a", 2, 3), ("b", 3, 4)]),
    fetch_of((("a", None), ("b", "a")), [("a", 0, 2), ("b", 2, 3), ("a", 3, 4)], [(0, "newer", 1)]),
    fetch_of(CHAIN, [("d", 0, 1), ("b", 1, 2), ("a", 2, 3)], [(2, "same", 0)]),
    fetch_of(CHAIN, [("a", 0, 1), ("c", 1, 2), ("d", 2, 3)]),
    fetch_of(TREE, [("left", 0, 1), ("right", 1, 2), ("hub", 2, 3)], [(0, "newer", 1)]),
    side_by_side(1),
    side_by_side(3, [(0, "newer", 1), (1, "newer", 2)]),
    side_by_side(3, [(0, "newer", 1), (1, "newer", 2), (2, "newer", 0)]),
    side_by_side(4, [(0, "same", 1), (1, "same", 2), (3, "newer", 2)]),
)


class ModelTest(unittest.TestCase):

    def hold(self, fetch):
        """Holds all that wholefetch.gaps tells of a FETCH against all tuples; whether it is possible."""
        many = len(fetch[2])
        right = histories(fetch, many)
        self.hold_each(fetch, right, many)
        self.assertIs(is_possible(fetch), bool(right))
        if not right:
            self.assertEqual(judged(fetch)[0], "ring")
            for ask in (level, few_versions):
                self.assertRaises(BadQuestion, ask, fetch)
            return False
        least = tuple(min(history[at] for history in right) for at in range(many))
        self.assertIn(least, right)
        self.assertEqual(level(fetch), least)
        self.assertEqual(judged(fetch), ("history", least))
        self.assertEqual(few_versions(fetch), min(len(set(history)) for history in right))
        for one in range(many):
            for other in range(many):
                self.hold_gap(fetch, right, one, other)
        return True

    def hold_each(self, fetch, right, top):
        """Each tuple of small versions: is it a HISTORY, and is a PAPER with it one?"""
        numbers = [()]
        for _ in fetch[2]:
            numbers = [row + (version,) for row in numbers for version in range(top + 1)]
        for history in numbers:
            self.assertIs(lets(fetch, history), history in right)
            if history in right:
                self.assertEqual(check_judged(fetch, ("history", history)), "history")
            else:
                self.assertRaises(BadPaper, check_judged, fetch, ("history", history))

    def hold_gap(self, fetch, right, one, other):
        """Where no WAY leads, versions may fall; else the GAP is the least difference."""
        least = min(history[other] - history[one] for history in right)
        self.assertEqual(gap(fetch, one, other), None if least < 0 else least)
        self.assertEqual(gap(fetch, one, other), gap_by_words(fetch, one, other))

    def test_named_fetches(self):
        self.assertEqual([self.hold(fetch) for fetch in NAMED].count(False), 2)

    def test_many_fetches_of_up_to_three_reads(self):
        told = [self.hold(fetch) for fetch in some_fetches(5, 250, 1, 3, 4, 3)]
        self.assertGreater(told.count(True), 50)
        self.assertGreater(told.count(False), 20)

    def test_some_fetches_of_four_reads(self):
        told = [self.hold(fetch) for fetch in some_fetches(6, 12, 4, 4, 3, 2)]
        self.assertIn(True, told)


if __name__ == "__main__":
    unittest.main()
