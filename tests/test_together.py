"""Tests of wholefetch.together: point [7]."""

import random
import unittest

from samples import (ALL_HOUSES, CHAIN, HUGE, ONE_PLACE, TREE, Asking, are_numbers, arrows_by_words, changed,
                     fetch_of, follow, gaps_by_words, histories, is_empty, is_possible_by_words, is_ring_by_words,
                     odd_things, one_by_one, side_by_side, some_fetches)
from wholefetch.errors import BadFetch, BadNumber, BadPaper, BadQuestion
from wholefetch.together import check_pair, classes, on_pair, together

UPTO_ROUND = [(0, "upto", 1), (1, "upto", 2), (2, "upto", 0)]
# READs 0 and 1 GO TOGETHER by two rings, one of which goes over READ 2; READ 3 is by itself.
RINGS = side_by_side(4, [(0, "same", 1)] + UPTO_ROUND)
APART = side_by_side(3, [(1, "newer", 0)])
IMPOSSIBLE = side_by_side(3, [(0, "newer", 1), (1, "upto", 2), (2, "same", 0), (1, "same", 0)])


def answer(fetch, one, other, paper):
    """What check_pair says of a PAPER on two READs of a possible FETCH, by the words of the document."""
    many = len(fetch[2])
    if type(paper) is not tuple or len(paper) != 2 or paper[0] not in ("ring", "apart"):
        return "form is bad"
    word, told = paper
    if word == "ring":
        if not are_numbers(told, many - 1) or len(told) > 200:
            return "form is bad"
        right = one in told and other in told and is_ring_by_words(fetch, told)
        return word if right or (one == other and told == (one, one)) else "ring is bad"
    if not are_numbers(told, 99) or len(told) != many:
        return "form is bad"
    right = all(told[a] + strict <= told[b] for (a, b), strict in arrows_by_words(fetch).items())
    return word if right and told[one] != told[other] else "apart is bad"


def asked(fetch, one, other, paper):
    """What check_pair says of it."""
    try:
        return check_pair(fetch, one, other, paper)
    except BadPaper as error:
        return error.part + " is bad"


class TogetherTest(Asking):

    def hold_pair(self, fetch, one, other, right):
        """Holds what is told of two READs, which GO TOGETHER or not, and its PAPER."""
        self.assertIs(together(fetch, one, other), right)
        paper = on_pair(fetch, one, other)
        self.assertEqual(paper[0], "ring" if right else "apart")
        self.assertEqual(answer(fetch, one, other, paper), paper[0])
        self.assertEqual(check_pair(fetch, one, other, paper), paper[0])
        self.assertEqual(on_pair(fetch, one, other), paper)

    def test_reads_that_go_together(self):
        lag = fetch_of(CHAIN, [("d", 0, 1), ("b", 1, 2), ("a", 2, 3)], [(2, "upto", 0)])
        for fetch, pairs in (
                (side_by_side(2, [(0, "same", 1)]), [(0, 1)]),
                (side_by_side(2, [(0, "upto", 1), (1, "upto", 0)]), [(0, 1)]),
                (side_by_side(3, [(0, "same", 2), (2, "same", 1)]), [(0, 1), (0, 2), (1, 2)]),
                (side_by_side(3, UPTO_ROUND), [(0, 1), (0, 2), (1, 2)]),
                (one_by_one(3, [(2, "upto", 0)]), [(0, 1), (0, 2), (1, 2)]),
                (one_by_one(3, [(2, "same", 0)]), [(0, 1), (0, 2), (1, 2)]),
                (one_by_one(12, [(11, "upto", 0)]), [(0, 11), (3, 4), (5, 9)]),
                (lag, [(0, 1), (0, 2), (1, 2)]),
                (RINGS, [(0, 1), (0, 2), (1, 2)]),
                (one_by_one(4, [(1, "newer", 0), (2, "same", 1)]), [(1, 2)])):
            for one, other in pairs:
                self.hold_pair(fetch, one, other, True)
                self.hold_pair(fetch, other, one, True)

    def test_reads_that_do_not(self):
        for fetch, pairs in (
                (side_by_side(2), [(0, 1)]),
                (side_by_side(2, [(0, "upto", 1)]), [(0, 1)]),
                (side_by_side(2, [(0, "newer", 1)]), [(0, 1)]),
                (side_by_side(3, [(0, "upto", 1), (1, "upto", 2)]), [(0, 1), (0, 2), (1, 2)]),
                (side_by_side(3, [(0, "upto", 1), (2, "upto", 1)]), [(0, 1), (0, 2), (1, 2)]),
                (one_by_one(3, [(1, "upto", 0)]), [(0, 2), (1, 2)]),
                (one_by_one(4, [(1, "newer", 0), (2, "same", 1)]), [(0, 1), (0, 3), (2, 3)]),
                (fetch_of(TREE, [("left", 0, 1), ("right", 1, 2), ("lone", 2, 3), ("hub", 3, 4)]),
                 [(0, 1), (0, 2), (0, 3), (1, 2), (1, 3), (2, 3)]),
                (RINGS, [(0, 3), (1, 3), (2, 3)])):
            for one, other in pairs:
                self.hold_pair(fetch, one, other, False)
                self.hold_pair(fetch, other, one, False)

    def test_a_read_by_itself(self):
        for fetch in (side_by_side(1), one_by_one(3), RINGS, side_by_side(12)):
            for number in range(len(fetch[2])):
                self.assertIs(together(fetch, number, number), True)
                self.assertEqual(on_pair(fetch, number, number), ("ring", (number, number)))
                self.assertEqual(check_pair(fetch, number, number, ("ring", (number, number))), "ring")
        self.refused(BadPaper, {"part": "ring"}, check_pair, side_by_side(2), 0, 0, ("ring", (1, 1)))
        self.refused(BadPaper, {"part": "ring"}, check_pair, side_by_side(2), 0, 0, ("ring", (0,)))
        self.refused(BadPaper, {"part": "ring"}, check_pair, side_by_side(2), 0, 0, ("ring", (0, 0, 0)))
        self.refused(BadPaper, {"part": "ring"}, check_pair, side_by_side(2), 0, 1, ("ring", (0, 0)))
        self.refused(BadPaper, {"part": "apart"}, check_pair, side_by_side(2), 1, 1, ("apart", (0, 1)))
        self.assertEqual(check_pair(RINGS, 1, 1, ("ring", (0, 1, 0))), "ring")
        self.refused(BadPaper, {"part": "ring"}, check_pair, RINGS, 2, 2, ("ring", (0, 1, 0)))

    def test_classes(self):
        for fetch, right in (
                (side_by_side(1), ((0,),)),
                (side_by_side(3), ((0,), (1,), (2,))),
                (side_by_side(4, [(0, "same", 3)]), ((0, 3), (1,), (2,))),
                (side_by_side(4, [(3, "same", 1)]), ((0,), (1, 3), (2,))),
                (side_by_side(4, [(3, "same", 1), (2, "same", 0)]), ((0, 2), (1, 3))),
                (side_by_side(4, [(3, "same", 0), (2, "same", 1)]), ((0, 3), (1, 2))),
                (RINGS, ((0, 1, 2), (3,))),
                (one_by_one(5, [(3, "upto", 1)]), ((0,), (1, 2, 3), (4,))),
                (one_by_one(12), tuple((at,) for at in range(12))),
                (one_by_one(12, [(11, "same", 0)]), (tuple(range(12)),))):
            self.assertEqual(classes(fetch), right)
            self.assertEqual(classes(fetch), classes(fetch))

    def test_twelve_in_a_row_all_apart(self):
        for fetch in (one_by_one(12), one_by_one(12, [(at + 1, "newer", at) for at in range(11)])):
            for one in range(12):
                for other in range(12):
                    self.hold_pair(fetch, one, other, one == other)


class FewVersionsTest(Asking):

    def versions(self, fetch, one, other):
        """How many versions the HISTORY has that is told of two READs that do not GO TOGETHER."""
        word, history = on_pair(fetch, one, other)
        self.assertEqual(word, "apart")
        self.assertEqual(check_pair(fetch, one, other, (word, history)), "apart")
        self.assertNotEqual(history[one], history[other])
        return len(set(history))

    def test_unlike_in_the_least_history(self):
        self.assertEqual(self.versions(APART, 0, 1), 2)
        self.assertEqual(self.versions(one_by_one(12, [(at + 1, "newer", at) for at in range(11)]), 4, 7), 12)

    def test_one_version_more(self):
        self.assertEqual(self.versions(side_by_side(2), 0, 1), 2)
        self.assertEqual(self.versions(one_by_one(2), 1, 0), 2)
        self.assertEqual(self.versions(one_by_one(12), 5, 6), 2)
        # READs 1 and 2 are the newest of two versions in both; so are 0 and 3 the eldest ones.
        tops = side_by_side(4, [(1, "newer", 0), (2, "newer", 3)])
        self.assertEqual(self.versions(tops, 1, 2), 3)
        self.assertEqual(self.versions(tops, 0, 3), 3)
        self.assertEqual(self.versions(tops, 0, 1), 2)
        self.assertEqual(self.versions(tops, 0, 2), 2)

    def test_a_roof_that_is_no_least_version(self):
        # READ 2 can be of either version: just it has another ROOF than its least version.
        self.assertEqual(self.versions(APART, 0, 2), 2)
        self.assertEqual(self.versions(APART, 2, 0), 2)
        self.assertEqual(self.versions(APART, 1, 2), 2)
        both = side_by_side(4, [(1, "newer", 0)])
        self.assertEqual(self.versions(both, 2, 3), 2)
        # READs 2 and 3 have one ROOF and one least version, and these are unlike.
        row = side_by_side(4, [(1, "newer", 0), (2, "upto", 3)])
        self.assertEqual(self.versions(row, 2, 3), 2)
        self.assertEqual(self.versions(row, 3, 2), 2)

    def test_a_lift_that_takes_others_along(self):
        # READ 0 can not be lifted above READ 1, but READ 1 above READ 0, and this takes READ 2 along.
        fetch = side_by_side(5, [(0, "upto", 1), (2, "newer", 1), (4, "newer", 3)])
        self.assertEqual(self.versions(fetch, 0, 1), 3)
        self.assertEqual(self.versions(fetch, 0, 3), 3)
        self.assertEqual(self.versions(fetch, 0, 4), 2)
        longer = side_by_side(5, [(0, "upto", 1), (2, "newer", 1), (4, "newer", 3), (3, "newer", 2)])
        self.assertEqual(self.versions(longer, 0, 1), 5)

    def hold(self, fetch, right):
        """Holds what is told of a FETCH against all its HISTORIES of small versions."""
        many = range(len(fetch[2]))
        alike = [[all(versions[a] == versions[b] for versions in right) for b in many] for a in many]
        told = [tuple(b for b in many if alike[a][b]) for a in many]
        self.assertEqual(classes(fetch), tuple(part for a, part in enumerate(told) if part[0] == a))
        for one in many:
            for other in many:
                self.assertIs(together(fetch, one, other), alike[one][other])
                paper = on_pair(fetch, one, other)
                self.assertEqual(answer(fetch, one, other, paper), paper[0])
                self.assertEqual(check_pair(fetch, one, other, paper), paper[0])
                if not alike[one][other]:
                    unlike = [versions for versions in right if versions[one] != versions[other]]
                    fewest = min(len(set(versions)) for versions in unlike)
                    self.assertEqual(len(set(paper[1])), fewest)
                    self.assertLessEqual(max(paper[1]), 99)
                    self.assertLessEqual(fewest, 1 + min(len(set(versions)) for versions in right))

    def test_small_fetches_by_what_places_show(self):
        held = 0
        for fetch in some_fetches(21, 120, 1, 3, 4, 3):
            right = histories(fetch, len(fetch[2]))
            if right:
                self.hold(fetch, right)
                held += 1
        self.assertGreater(held, 50)

    def test_fetches_of_up_to_five_reads(self):
        held = 0
        for fetch in some_fetches(22, 150, 2, 4, 5, 5) + some_fetches(23, 40, 5, 5, 6, 6):
            if is_possible_by_words(fetch):
                self.hold(fetch, follow(fetch, len(fetch[2])))
                held += 1
        self.assertGreater(held, 60)

    def test_large_fetches_by_ways(self):
        held = 0
        for fetch in some_fetches(24, 60, 6, 12, 9, 10, ALL_HOUSES):
            if is_possible_by_words(fetch):
                held += 1
                table = gaps_by_words(fetch)
                many = range(len(table))
                for one in many:
                    for other in many:
                        right = table[one][other] is not None and table[other][one] is not None
                        self.assertIs(together(fetch, one, other), right)
                        paper = on_pair(fetch, one, other)
                        self.assertEqual(paper[0], "ring" if right else "apart")
                        self.assertEqual(answer(fetch, one, other, paper), paper[0])
        self.assertGreater(held, 20)


class CheckPairTest(Asking):

    def test_changed_papers(self):
        chance = random.Random(25)
        said = set()
        fetches = [RINGS, APART, side_by_side(1), one_by_one(3), one_by_one(3, [(2, "same", 0)])]
        fetches += [fetch for fetch in some_fetches(26, 40, 2, 6, 6, 4) if is_possible_by_words(fetch)]
        for fetch in fetches:
            for _ in range(3):
                one, other = chance.choices(range(len(fetch[2])), k=2)
                for paper in [on_pair(fetch, one, other)] + list(changed(on_pair(fetch, one, other))):
                    right = answer(fetch, one, other, paper)
                    self.assertEqual(asked(fetch, one, other, paper), right)
                    said.add(right)
        self.assertEqual(said, {"ring", "apart", "form is bad", "ring is bad", "apart is bad"})

    def test_any_ring_or_history_will_do(self):
        for ring in ((0, 1, 0), (1, 0, 1), (0, 1, 2, 0), (2, 0, 1, 2), (1, 2, 0, 1), (0, 1, 0, 1, 2, 0)):
            self.assertEqual(check_pair(RINGS, 0, 1, ("ring", ring)), "ring")
        for ring in ((0, 1, 0), (1, 0, 1)):
            for one, other in ((0, 2), (2, 0), (3, 1), (2, 3), (2, 2)):
                self.refused(BadPaper, {"part": "ring"}, check_pair, RINGS, one, other, ("ring", ring))
        for ring in ((), (0,), (0, 1), (0, 1, 2), (0, 0), (1, 2, 1), (0, 2, 1, 0), (0, 1, 3, 0), (3, 0, 1, 3)):
            self.refused(BadPaper, {"part": "ring"}, check_pair, RINGS, 0, 1, ("ring", ring))
        for history in ((0, 1, 2), (0, 1, 0), (0, 99, 3), (98, 99, 50)):
            self.assertEqual(check_pair(APART, 0, 1, ("apart", history)), "apart")
        for history in ((1, 0, 2), (0, 0, 0), (99, 99, 0)):
            self.refused(BadPaper, {"part": "apart"}, check_pair, APART, 0, 1, ("apart", history))
        self.refused(BadPaper, {"part": "apart"}, check_pair, APART, 0, 2, ("apart", (0, 1, 0)))
        self.refused(BadPaper, {"part": "apart"}, check_pair, RINGS, 0, 1, ("apart", (0, 1, 0, 0)))

    def test_rings_of_up_to_200_numbers(self):
        # Steps round 0, 1 and round 0, 1, 2 make rings of 200 and of 201 numbers.
        even, odd = (0, 1) * 98 + (0, 1, 2), (0, 1) * 100
        self.assertEqual(len(even + (0,)), 200)
        self.assertEqual(check_pair(RINGS, 0, 1, ("ring", even + (0,))), "ring")
        self.assertEqual(check_pair(RINGS, 0, 2, ("ring", even + (0,))), "ring")
        self.assertEqual(len(odd + (0,)), 201)
        self.refused(BadPaper, {"part": "form"}, check_pair, RINGS, 0, 1, ("ring", odd + (0,)))
        self.refused(BadPaper, {"part": "form"}, check_pair, RINGS, 0, 1, ("ring", (0, 1) * 50000))
        self.refused(BadPaper, {"part": "ring"}, check_pair, RINGS, 0, 1, ("ring", odd))

    def test_versions_to_99(self):
        two = side_by_side(2)
        self.assertEqual(check_pair(two, 0, 1, ("apart", (99, 0))), "apart")
        for version in (100, -1, HUGE, -HUGE, True, None, "1", (1,)):
            self.refused(BadPaper, {"part": "form"}, check_pair, two, 0, 1, ("apart", (0, version)))

    def test_forms_that_are_none(self):
        for paper in ((), ("ring",), ("ring", (0, 1, 0), ()), ["ring", (0, 1, 0)], "ring", ("Ring", (0, 1, 0)),
                      ("ring", [0, 1, 0]), ("ring", (0, 4, 0)), ("ring", (0, -1, 0)), ("ring", (0, True, 0)),
                      ("ring", 0), ("ring", None), ("apart", (0, 1, 0)), ("apart", (0,) * 5), ("apart", [0, 0, 0, 1]),
                      ("history", (0, 0, 0, 1)), (("ring",), (0, 1, 0)), (None, (0, 1, 0)), ("ring", ("0", "1", "0"))):
            self.refused(BadPaper, {"part": "form"}, check_pair, RINGS, 0, 1, paper)

    def test_of_anything(self):
        for at, thing in enumerate(odd_things()):
            with self.subTest(at=at):
                for paper in (thing, (thing, (0, 1, 0)), ("ring", (0, thing, 0)), ("apart", (0, 1, 0, thing)),
                              ("ring", (0, 1, 0), thing), ("apart", thing)):
                    self.refused(BadPaper, {"part": "form"}, check_pair, RINGS, 0, 1, paper)
                part = "ring" if is_empty(thing) else "form"
                self.refused(BadPaper, {"part": part}, check_pair, RINGS, 0, 1, ("ring", thing))


class RefusalsTest(Asking):

    def test_bad_fetch_first(self):
        self.refuses_fetches(classes)
        for ask in (together, on_pair):
            self.refuses_fetches(ask, None, None)
        self.refuses_fetches(check_pair, None, None, None)

    def test_impossible_fetches(self):
        self.refuses_impossible(classes)
        for one, other in ((0, 1), (2, 2), (2, 0)):
            for ask in (together, on_pair):
                self.refuses_impossible(ask, one, other)
        self.refuses_impossible(check_pair, 1, 1, ("ring", (1, 1)))
        self.refused(BadQuestion, {}, check_pair, IMPOSSIBLE, 0, 1, ("ring", (0, 1, 0)))

    def test_numbers(self):
        things = odd_things() + [3, 12, -1, "0", (0,)]
        for at, thing in enumerate(things):
            with self.subTest(at=at):
                for fetch in (APART, IMPOSSIBLE):
                    for ask, more in ((together, ()), (on_pair, ()), (check_pair, (None,))):
                        self.refused(BadNumber, {"given": thing}, ask, fetch, thing, 0, *more)
                        self.refused(BadNumber, {"given": thing}, ask, fetch, 2, thing, *more)
                        self.refused(BadNumber, {"given": thing}, ask, fetch, thing, None, *more)

    def test_a_paper_is_refused_ahead_of_the_question(self):
        for paper, part in ((None, "form"), (("ring", (0, 2, 1)), "ring"), (("apart", (0, 1, 2)), "apart"),
                            (("ring", ()), "ring"), (("ring", (1, 1)), "ring"), (("apart", (0, 1)), "form")):
            self.refused(BadPaper, {"part": part}, check_pair, IMPOSSIBLE, 0, 1, paper)

    def test_what_is_passed_is_not_changed(self):
        paper = ["ring", [0, 1, 0]]
        self.refused(BadPaper, {"part": "form"}, check_pair, RINGS, 0, 1, paper)
        self.assertEqual(paper, ["ring", [0, 1, 0]])
        for number in ([0], {}):
            self.refused(BadNumber, {"given": number}, together, RINGS, number, 0)
        fetch = [list(ONE_PLACE), 5, [], []]
        self.refused(BadFetch, {"part": "form", "number": None}, classes, fetch)
        self.assertEqual(fetch, [list(ONE_PLACE), 5, [], []])


if __name__ == "__main__":
    unittest.main()
