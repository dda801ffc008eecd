"""Tests of wholefetch.further: points [8] and [9]."""

import itertools
import random
import unittest

from samples import (ALL_HOUSES, CHAIN, Asking, are_numbers, changed, check_holds, fetch_of, follow, further_checks,
                     gaps_by_words, histories, is_empty, is_possible_by_words, is_way_by_words, odd_things,
                     one_by_one, rises_by_words, side_by_side, some_fetches, with_more)
from wholefetch.errors import BadGlue, BadPaper, BadQuestion
from wholefetch.further import check_further, further, how_many, is_sure, with_checks

# Classes (0,), (1,), (2,) and (3,): 0 leads to 1 and to 2, and 3 neither leads nor is led to.
FORK = side_by_side(4, [(0, "upto", 1), (0, "upto", 2)])
IMPOSSIBLE = side_by_side(3, [(0, "newer", 1), (1, "upto", 2), (2, "same", 0), (1, "same", 0)])
# A WAY with a STRICT ARROW leads from READ 0 to READ 2, over READ 1; READ 3 is free.
NEVER = side_by_side(4, [(0, "upto", 1), (2, "newer", 1)])
REASONS = ("one", "alone", "first", "last")


def subsets(row):
    """All tuples of at least one item of a row, in its order."""
    return [told for many in range(1, len(row) + 1) for told in itertools.combinations(row, many)]


def parts_of(table, glue):
    """The CLASSES of a GLUE, off the table of GAPs."""
    parts = []
    for one in glue:
        part = tuple(two for two in glue if table[one][two] is not None and table[two][one] is not None)
        if part[0] == one:
            parts.append(part)
    return parts


def leading(table, parts):
    """The pairs of unlike classes of which one leads to the other one, over any READs."""
    return [(part, other) for part, other in itertools.permutations(parts, 2) if table[part[0]][other[0]] is not None]


def wanted(fetch, glue):
    """How many FURTHER CHECKs are wanted by the Facts of [8], or None."""
    table = gaps_by_words(fetch)
    if any(table[one][two] for one, two in itertools.permutations(glue, 2)):
        return None
    parts = parts_of(table, glue)
    pairs = leading(table, parts)
    if not pairs:
        return len(parts) - 1
    return max(len(parts) - len({pair[at] for pair in pairs}) for at in (0, 1))


def are_further(glue, thing):
    """Whether it is a tuple of at most 24 FURTHER CHECKs."""
    if type(thing) is not tuple or len(thing) > 24:
        return False
    for item in thing:
        if type(item) is not tuple or len(item) != 3 or not are_numbers((item[0], item[2]), max(glue)):
            return False
        if item[1] not in ("same", "upto") or item[0] == item[2] or item[0] not in glue or item[2] not in glue:
            return False
    return True


def make_sure(fetch, glue, checks):
    """Whether CHECKs MAKE a GLUE SURE, by GAPs."""
    more = with_more(fetch, checks)
    return is_possible_by_words(more) and len(parts_of(gaps_by_words(more), glue)) == 1


def answer(fetch, glue, paper):
    """What check_further says of a PAPER on a GLUE of a possible FETCH, by the words of the document."""
    last = len(fetch[2]) - 1
    if type(paper) is tuple and len(paper) == 2 and paper[0] == "never":
        way = paper[1]
        if not are_numbers(way, last) or len(way) > 200:
            return "form is bad"
        right = is_way_by_words(fetch, way) and rises_by_words(fetch, way) and way[0] in glue and way[-1] in glue
        return "never" if right else "never is bad"
    if type(paper) is not tuple or len(paper) != 4 or paper[0] != "checks":
        return "form is bad"
    checks, word, reads = paper[1:]
    if not are_further(glue, checks) or not (type(word) is str and word in REASONS):
        return "form is bad"
    if not are_numbers(reads, last) or len(reads) > 200:
        return "form is bad"
    right = make_sure(fetch, glue, checks) and tells_why(fetch, glue, checks, word, reads)
    return "checks" if right else "checks is bad"


def tells_why(fetch, glue, checks, word, reads):
    """Whether a word and READs tell why fewer CHECKs do not do, by the words of [9]."""
    table = gaps_by_words(fetch)
    parts = parts_of(table, glue)
    pairs = leading(table, parts)
    if word == "one":
        return checks == () and reads == () and len(parts) == 1
    if list(reads) != sorted(set(reads)) or not set(reads) <= set(glue):
        return False
    mine = [part for read in reads for part in parts if read in part]
    if len(set(mine)) < len(reads):
        return False
    if word == "alone":
        return not pairs and len(reads) == len(checks) + 1
    led = {pair[1] if word == "first" else pair[0] for pair in pairs}
    return bool(pairs) and len(reads) == len(checks) and not led & set(mine)


def asked(fetch, glue, paper):
    """What check_further says of it."""
    try:
        return check_further(fetch, glue, paper)
    except BadPaper as error:
        return error.part + " is bad"


class FurtherTest(Asking):

    def hold(self, fetch, glue, fewest):
        """Holds what is told of a GLUE that wants so many FURTHER CHECKs, or of one that none MAKE SURE."""
        self.assertEqual(how_many(fetch, glue), fewest)
        self.assertEqual(wanted(fetch, glue), fewest)
        self.assertIs(is_sure(fetch, glue), fewest == 0)
        paper = further(fetch, glue)
        self.assertEqual(answer(fetch, glue, paper), paper[0])
        self.assertEqual(check_further(fetch, glue, paper), paper[0])
        self.assertEqual(further(fetch, glue), paper)
        if fewest is None:
            self.assertEqual(paper[0], "never")
            return paper
        self.assertEqual(paper[0], "checks")
        self.assertEqual(len(paper[1]), fewest)
        self.assertIs(with_checks(fetch, glue, paper[1]), True)
        self.assertTrue(is_possible_by_words(with_more(fetch, paper[1])))
        return paper

    def test_sure_glues(self):
        for fetch, glue in ((side_by_side(1), (0,)), (side_by_side(3), (1,)), (side_by_side(12), (11,)),
                            (one_by_one(3, [(2, "upto", 0)]), (0, 1, 2)), (NEVER, (2,)), (NEVER, (3,)),
                            (side_by_side(3, [(0, "same", 2)]), (0, 2)),
                            (side_by_side(3, [(0, "upto", 1), (1, "upto", 2), (2, "upto", 0)]), (0, 2)),
                            (one_by_one(12, [(11, "same", 0)]), tuple(range(12)))):
            self.assertEqual(self.hold(fetch, glue, 0), ("checks", (), "one", ()))
            self.assertEqual(check_further(fetch, glue, ("checks", (), "alone", glue[:1])), "checks")
            self.assertEqual(check_further(fetch, glue, ("checks", (), "alone", glue[-1:])), "checks")

    def test_classes_none_of_which_leads_to_another_one(self):
        for fetch, glue, fewest in ((side_by_side(2), (0, 1), 1), (side_by_side(12), tuple(range(12)), 11),
                                    (side_by_side(4), (0, 2, 3), 2), (FORK, (1, 2), 1), (FORK, (1, 2, 3), 2),
                                    (side_by_side(4, [(1, "same", 2)]), (0, 1, 2, 3), 2),
                                    (fetch_of(CHAIN, [("a", 0, 1), ("b", 1, 2), ("d", 2, 3)]), (0, 1, 2), 2),
                                    (NEVER, (0, 3), 1)):
            paper = self.hold(fetch, glue, fewest)
            self.assertEqual(paper[2], "alone")
            self.assertEqual(len(paper[3]), fewest + 1)

    def test_as_many_first_as_last_classes(self):
        for fetch, glue, fewest in ((side_by_side(2, [(0, "upto", 1)]), (0, 1), 1),
                                    (one_by_one(12), tuple(range(12)), 1),
                                    (side_by_side(4, [(0, "upto", 1), (2, "upto", 3)]), (0, 1, 2, 3), 2),
                                    (side_by_side(4, [(0, "upto", 2), (0, "upto", 3), (1, "upto", 2)]), (0, 1, 2, 3), 2),
                                    (fetch_of(CHAIN, [("d", 0, 1), ("b", 1, 2), ("a", 2, 3)]), (0, 1, 2), 1)):
            paper = self.hold(fetch, glue, fewest)
            self.assertIn(paper[2], ("first", "last"))
            self.assertEqual(len(paper[3]), fewest)

    def test_more_first_or_more_last_classes(self):
        for fetch, glue, fewest, word in (
                (side_by_side(3, [(0, "upto", 2), (1, "upto", 2)]), (0, 1, 2), 2, "first"),
                (side_by_side(3, [(0, "upto", 1), (0, "upto", 2)]), (0, 1, 2), 2, "last"),
                (side_by_side(12, [(at, "upto", 11) for at in range(11)]), tuple(range(12)), 11, "first"),
                (side_by_side(12, [(0, "upto", at) for at in range(1, 12)]), tuple(range(12)), 11, "last"),
                (side_by_side(5, [(0, "upto", 2), (1, "upto", 2), (2, "upto", 3), (3, "upto", 4)]), (0, 1, 4), 2, "first"),
                (side_by_side(6, [(0, "same", 1), (1, "upto", 2), (2, "same", 3), (4, "upto", 3)]), (0, 1, 2, 3, 4), 2,
                 "first")):
            self.assertEqual(self.hold(fetch, glue, fewest)[2], word)

    def test_a_class_that_is_first_and_last(self):
        paper = self.hold(FORK, (0, 1, 2, 3), 3)
        self.assertEqual(paper[2:], ("last", (1, 2, 3)))
        self.assertEqual(self.hold(FORK, (0, 1, 3), 2)[2] in ("first", "last"), True)
        turned = side_by_side(4, [(1, "upto", 0), (2, "upto", 0)])
        self.assertEqual(self.hold(turned, (0, 1, 2, 3), 3)[2:], ("first", (1, 2, 3)))
        self.hold(side_by_side(12, [(0, "upto", 1)]), tuple(range(12)), 11)

    def test_left_over_both_of_the_first_and_of_the_last(self):
        # 0 leads to 2 and 3, 1 to 2: if 0 is matched with 2, 1 and 3 are left over.
        fetch = side_by_side(4, [(0, "upto", 2), (0, "upto", 3), (1, "upto", 2)])
        self.hold(fetch, (0, 1, 2, 3), 2)
        more = side_by_side(8, [(0, "upto", 3), (0, "upto", 4), (0, "upto", 5), (1, "upto", 3), (2, "upto", 3)])
        self.hold(more, (0, 1, 2, 3, 4, 5), 3)
        self.hold(more, (0, 1, 2, 3, 4, 5, 6), 4)
        self.hold(more, (0, 1, 2, 3, 4, 5, 6, 7), 5)
        self.hold(more, (0, 1, 2, 3, 4), 3)
        self.hold(more, (0, 1, 3, 4, 5), 3)

    def test_reads_beside_the_glue_tie_it(self):
        fetch = side_by_side(4, [(0, "upto", 3), (3, "upto", 1), (1, "upto", 0)])
        self.hold(fetch, (0, 1), 0)
        self.hold(fetch, (0, 1, 2), 1)
        self.hold(side_by_side(4, [(0, "upto", 3), (3, "upto", 1)]), (0, 1), 1)
        self.hold(side_by_side(4, [(0, "upto", 3), (3, "upto", 1)]), (0, 1, 2), 2)

    def test_never(self):
        for fetch, glue in ((NEVER, (0, 2)), (NEVER, (0, 1, 2)), (NEVER, (1, 2)), (NEVER, (0, 1, 2, 3)),
                            (side_by_side(2, [(0, "newer", 1)]), (0, 1)),
                            (side_by_side(5, [(1, "upto", 0), (2, "newer", 0), (2, "upto", 3)]), (1, 3)),
                            (one_by_one(12, [(6, "newer", 5)]), (0, 11)),
                            (fetch_of(CHAIN, [("d", 0, 1), ("a", 1, 2), ("d", 0, 2)], [(1, "newer", 0)]), (0, 1, 2))):
            paper = self.hold(fetch, glue, None)
            self.assertIn(paper[1][0], glue)
            self.assertIn(paper[1][-1], glue)
            self.assertLessEqual(len(paper[1]), 200)
        self.hold(NEVER, (0, 1), 1)
        self.hold(NEVER, (0, 1, 3), 2)
        # Both strict arrows lead out of the glue, and none back into it.
        self.hold(side_by_side(4, [(2, "newer", 0), (3, "newer", 1)]), (0, 1), 1)
        self.hold(side_by_side(4, [(0, "newer", 2), (1, "newer", 2)]), (0, 1), 1)


class FewestTest(Asking):

    def masks(self, right, glue):
        """For each FURTHER CHECK the HISTORIES that it lets by, as bits; and those in which the GLUE is torn."""
        told = {check: sum(1 << at for at, versions in enumerate(right) if check_holds(check, versions))
                for check in further_checks(glue)}
        torn = sum(1 << at for at, versions in enumerate(right) if len({versions[read] for read in glue}) > 1)
        return told, torn

    def hold(self, fetch, right, glue, deepest):
        """Holds what is told of a GLUE against all HISTORIES of small versions and all sets of FURTHER CHECKs."""
        told, torn = self.masks(right, glue)
        every = (1 << len(right)) - 1
        fewest = how_many(fetch, glue)
        self.assertIs(is_sure(fetch, glue), torn == 0)
        paper = further(fetch, glue)
        self.assertEqual(answer(fetch, glue, paper), paper[0])
        self.assertEqual(check_further(fetch, glue, paper), paper[0])
        self.assertIs(fewest is None, torn == every)
        if fewest is None:
            self.assertEqual(paper[0], "never")
        else:
            self.assertEqual(len(paper[1]), fewest)
            self.assertIs(with_checks(fetch, glue, paper[1]), True)
        for many in range(deepest + 1 if fewest is None else min(fewest, deepest) + 1):
            for checks in itertools.combinations(told, many):
                left = every
                for check in checks:
                    left &= told[check]
                sure = left != 0 and left & torn == 0
                if many < 2:
                    self.assertIs(with_checks(fetch, glue, checks), sure)
                if fewest is not None and many < fewest:
                    self.assertFalse(sure)
        if fewest is not None:
            left = every
            for one, word, other in paper[1]:
                left &= told.get((one, word, other)) or told[(other, word, one)]
            self.assertTrue(left)
            self.assertFalse(left & torn)

    def test_small_fetches_by_what_places_show(self):
        held = []
        for fetch in some_fetches(31, 120, 1, 3, 4, 3):
            right = sorted(histories(fetch, len(fetch[2])))
            if right:
                for glue in subsets(range(len(fetch[2]))):
                    self.hold(fetch, right, glue, 3)
                    held.append(how_many(fetch, glue))
        self.assertEqual(set(held), {None, 0, 1, 2})

    def test_fetches_of_four_and_five_reads(self):
        held = []
        fetches = some_fetches(32, 120, 4, 4, 6, 4) + some_fetches(33, 30, 5, 5, 7, 5)
        fetches += [side_by_side(4), FORK, NEVER, side_by_side(4, [(1, "upto", 0), (2, "upto", 0)])]
        fetches += [side_by_side(4, [(0, "upto", 2), (0, "upto", 3), (1, "upto", 2)]),
                    side_by_side(5, [(0, "upto", 1)]), side_by_side(5, [(0, "upto", 2), (1, "upto", 2), (3, "upto", 4)])]
        for fetch in fetches:
            if is_possible_by_words(fetch):
                right = follow(fetch, len(fetch[2]) - 1)
                for glue in subsets(range(len(fetch[2]))):
                    self.hold(fetch, right, glue, 3)
                    held.append(how_many(fetch, glue))
        self.assertEqual(set(held), {None, 0, 1, 2, 3, 4})

    def test_six_reads_with_first_and_last_ones_left_over(self):
        glue = (0, 1, 2, 3, 4, 5)
        for pairs in ([(0, 3), (0, 4), (0, 5), (1, 3), (2, 3)], [(0, 2), (0, 3), (1, 2)], [(0, 1), (2, 1), (2, 3)]):
            fetch = side_by_side(6, [(one, "upto", two) for one, two in pairs])
            self.hold(fetch, follow(fetch, 5), glue, 2)

    def test_any_further_checks(self):
        chance = random.Random(34)
        said = [0, 0]
        for fetch in [fetch for fetch in some_fetches(35, 60, 2, 4, 6, 4) if is_possible_by_words(fetch)]:
            many = len(fetch[2])
            right = follow(fetch, many - 1)
            for _ in range(30):
                glue = chance.choice(subsets(range(many)))
                told = further_checks(glue)
                checks = tuple(chance.choices(told, k=chance.randint(0, 6))) if told else ()
                left = [versions for versions in right if all(check_holds(check, versions) for check in checks)]
                sure = bool(left) and all(len({versions[read] for read in glue}) == 1 for versions in left)
                self.assertIs(with_checks(fetch, glue, checks), sure)
                said[sure] += 1
        self.assertGreater(min(said), 100)

    def test_large_fetches_by_the_facts(self):
        chance = random.Random(36)
        held = 0
        shapes = some_fetches(37, 80, 6, 12, 12, 8, ALL_HOUSES)
        for many in (8, 12, 12, 12, 12, 12):
            pairs = [sorted(chance.sample(range(many), 2)) for _ in range(many)]
            shapes += [side_by_side(many, [(one, "upto", two) for one, two in pairs[:cut]]) for cut in range(many)]
        for fetch in shapes:
            if is_possible_by_words(fetch):
                reads = range(len(fetch[2]))
                for glue in [tuple(reads)] + [tuple(sorted(chance.sample(reads, 5))) for _ in range(3)]:
                    fewest = wanted(fetch, glue)
                    self.assertEqual(how_many(fetch, glue), fewest)
                    paper = further(fetch, glue)
                    self.assertEqual(answer(fetch, glue, paper), paper[0])
                    self.assertEqual(check_further(fetch, glue, paper), paper[0])
                    self.assertIs(paper[0] == "never", fewest is None)
                    self.assertIn(len(paper[1]), range(24) if fewest is None else [fewest])
                    held += 1
        self.assertGreater(held, 300)


class WithChecksTest(Asking):

    def test_checks_that_do_or_do_not(self):
        two = side_by_side(3, [(0, "upto", 1)])
        for checks, right in (((), False), (((1, "upto", 0),), True), (((0, "upto", 1),), False),
                              (((0, "same", 1),), True), (((1, "same", 0),), True),
                              (((1, "upto", 0), (1, "upto", 0)), True), (((0, "same", 1), (1, "upto", 0)), True)):
            self.assertIs(with_checks(two, (0, 1), checks), right)
        self.assertIs(with_checks(two, (2,), ()), True)

    def test_checks_that_make_the_fetch_impossible(self):
        for checks in ((), ((0, "same", 2),), ((2, "upto", 0),), ((0, "upto", 2),)):
            self.assertIs(with_checks(NEVER, (0, 2), checks), False)
        self.assertIs(with_checks(NEVER, (1, 2), ((2, "upto", 1),)), False)
        # READs 0 and 3 are tied, but READ 2 is not newer than READ 1 then.
        self.assertIs(with_checks(NEVER, (0, 2, 3), ((0, "same", 3), (2, "same", 3))), False)

    def test_at_most_24(self):
        two = side_by_side(2, [(0, "upto", 1)] * 24)
        self.assertIs(with_checks(two, (0, 1), ((1, "upto", 0),) * 24), True)
        self.assertIs(with_checks(two, (0, 1), ((0, "upto", 1),) * 24), False)
        self.refused(BadPaper, {"part": "checks"}, with_checks, two, (0, 1), ((1, "upto", 0),) * 25)
        self.assertEqual(further(two, (0, 1))[1], ((1, "upto", 0),))

    def test_what_is_no_further_check(self):
        for item in ((0, "newer", 1), (0, "upto", 0), (0, "upto", 2), (2, "same", 1), (0, "upto"), (0, "upto", 1, 1),
                     [0, "upto", 1], (0, "Upto", 1), (0, "", 1), (True, "upto", 0), (0, "upto", True), (0, None, 1),
                     ("0", "upto", 1), (-1, "upto", 1), (0, "upto", 3), (0, "upto", 12), 0, None, "upto", ()):
            self.refused(BadPaper, {"part": "checks"}, with_checks, FORK, (0, 1), (item,))
            self.refused(BadPaper, {"part": "checks"}, with_checks, FORK, (0, 1), ((1, "upto", 0), item))
            self.refused(BadPaper, {"part": "checks"}, with_checks, IMPOSSIBLE, (0, 1), (item,))
            self.refused(BadPaper, {"part": "form"}, check_further, FORK, (0, 1), ("checks", (item,), "first", (0,)))

    def test_of_anything(self):
        for at, thing in enumerate(odd_things()):
            with self.subTest(at=at):
                if not is_empty(thing):
                    self.refused(BadPaper, {"part": "checks"}, with_checks, FORK, (0, 1), thing)
                for item in (thing, (thing, "upto", 1), (0, thing, 1), (0, "upto", thing)):
                    self.refused(BadPaper, {"part": "checks"}, with_checks, FORK, (0, 1), (item,))


class CheckFurtherTest(Asking):

    def test_changed_papers(self):
        chance = random.Random(38)
        said = set()
        fetches = [FORK, NEVER, side_by_side(1), side_by_side(3), one_by_one(3),
                   side_by_side(3, [(0, "upto", 2), (1, "upto", 2)])]
        fetches += [fetch for fetch in some_fetches(39, 25, 2, 5, 6, 4) if is_possible_by_words(fetch)]
        for fetch in fetches:
            every = tuple(range(len(fetch[2])))
            for glue in {every, every[:1], tuple(sorted(chance.sample(every, len(every) // 2 + 1)))}:
                for paper in changed(further(fetch, glue)):
                    right = answer(fetch, glue, paper)
                    self.assertEqual(asked(fetch, glue, paper), right)
                    said.add(right)
        self.assertEqual(said, {"checks", "never", "form is bad", "checks is bad", "never is bad"})

    def test_one(self):
        tied = side_by_side(3, [(0, "same", 1), (1, "same", 2)])
        self.assertEqual(check_further(tied, (0, 1), ("checks", (), "one", ())), "checks")
        for paper in (("checks", (), "one", (0,)), ("checks", ((0, "same", 1),), "one", ()), ("checks", (), "first", ()),
                      ("checks", (), "first", (0,)), ("checks", (), "last", ()), ("checks", (), "alone", ()),
                      ("checks", (), "alone", (2,)), ("checks", (), "alone", (0, 1)),
                      ("checks", ((0, "same", 1),), "alone", (0, 1)), ("checks", ((0, "upto", 1),), "first", (0,))):
            self.refused(BadPaper, {"part": "checks"}, check_further, tied, (0, 1), paper)

    def test_alone(self):
        four = side_by_side(4, [(0, "same", 2)])
        row = ((0, "same", 1), (1, "same", 3))
        glue = (0, 1, 2, 3)
        for reads in ((0, 1, 3), (1, 2, 3)):
            self.assertEqual(check_further(four, glue, ("checks", row, "alone", reads)), "checks")
        for checks, word, reads in (
                (row, "alone", (0, 1, 2, 3)), (row, "alone", (0, 1)), (row, "alone", (0, 2, 3)), (row, "alone", (3, 1, 0)),
                (row, "alone", (0, 1, 1)), (row, "alone", ()), (row, "one", ()), (row, "first", (0, 1)),
                (row, "last", (0, 1)), (row[:1], "alone", (0, 1)), ((), "alone", (0,)), (row + row, "alone", (0, 1, 3)),
                (((0, "upto", 1), (1, "upto", 3), (3, "upto", 0)), "alone", (0, 1, 3))):
            self.refused(BadPaper, {"part": "checks"}, check_further, four, glue, ("checks", checks, word, reads))
        self.refused(BadPaper, {"part": "checks"}, check_further, four, (0, 1, 3), ("checks", row, "alone", (1, 2, 3)))

    def test_first_and_last(self):
        glue = (0, 1, 2)
        into = ((1, "upto", 2), (2, "upto", 0))
        for paper in (("checks", into, "last", (1, 2)), ("checks", ((1, "same", 2), (2, "upto", 0)), "last", (1, 2))):
            self.assertEqual(check_further(FORK, glue, paper), "checks")
        for checks, word, reads in ((into, "first", (1, 2)), (into, "first", (0,)), (into, "last", (0, 2)),
                                    (into, "last", (2, 1)), (into, "last", (1,)), (into, "last", (1, 1)),
                                    (into, "last", (1, 2, 3)), (into, "last", (1, 3)), (into, "alone", (0, 1, 2)),
                                    (into, "last", ()), (into[:1], "last", (1,)), (into[:1], "first", (0,)),
                                    (into + into[:1], "last", (0, 1, 2)), (into, "one", ())):
            self.refused(BadPaper, {"part": "checks"}, check_further, FORK, glue, ("checks", checks, word, reads))
        line = one_by_one(3)
        for word, read in (("first", 0), ("last", 2)):
            for check in ((2, "upto", 0), (2, "same", 0), (0, "same", 2)):
                self.assertEqual(check_further(line, glue, ("checks", (check,), word, (read,))), "checks")
            for wrong in {0, 1, 2} - {read}:
                paper = ("checks", ((2, "upto", 0),), word, (wrong,))
                self.refused(BadPaper, {"part": "checks"}, check_further, line, glue, paper)

    def test_never(self):
        for way in ((1, 2), (0, 1, 2)):
            self.assertEqual(check_further(NEVER, (0, 1, 2), ("never", way)), "never")
        for way in ((), (0,), (0, 1), (2, 1), (0, 2), (2, 1, 0), (0, 1, 2, 3), (3, 0, 1, 2), (1, 2, 1)):
            self.refused(BadPaper, {"part": "never"}, check_further, NEVER, (0, 1, 2), ("never", way))
        self.refused(BadPaper, {"part": "never"}, check_further, NEVER, (0, 2), ("never", (1, 2)))
        self.refused(BadPaper, {"part": "never"}, check_further, NEVER, (0, 1), ("never", (0, 1, 2)))
        self.refused(BadPaper, {"part": "checks"}, check_further, NEVER, (0, 2),
                     ("checks", ((0, "same", 2),), "last", (2,)))

    def test_ways_of_up_to_200_numbers(self):
        round_and_up = side_by_side(4, [(0, "same", 1), (2, "newer", 1)])
        for many, word in ((200, "never is bad"), (201, "form is bad"), (20000, "form is bad")):
            self.assertEqual(asked(round_and_up, (0, 2), ("never", (0,) * many)), word)
        right = (0,) + (1, 0) * 98 + (1, 2)
        self.assertEqual(len(right), 199)
        self.assertEqual(asked(round_and_up, (0, 2), ("never", right)), "never")
        self.assertEqual(asked(round_and_up, (0, 1, 2), ("never", (1,) + right)), "never")
        self.assertEqual(asked(round_and_up, (0, 1, 2), ("never", (0, 1) + right)), "form is bad")
        for many, word in ((200, "checks is bad"), (201, "form is bad")):
            self.assertEqual(asked(FORK, (0, 1), ("checks", ((1, "upto", 0),), "first", (0,) * many)), word)

    def test_24_checks_and_one_more(self):
        same = ((0, "same", 1),)
        for many, word in ((1, "checks"), (24, "checks is bad"), (25, "form is bad")):
            self.assertEqual(asked(side_by_side(2), (0, 1), ("checks", same * many, "alone", (0, 1))), word)

    def test_forms_that_are_none(self):
        good = ("checks", ((1, "upto", 0),), "first", (0,))
        self.assertEqual(check_further(FORK, (0, 1), good), "checks")
        for paper in ((), good[:3], good + ((),), list(good), ("never",) + good[1:], ("checks", good[1]),
                      ("checks", good[1][0], "first", (0,)), ("checks", list(good[1]), "first", (0,)),
                      good[:2] + ("never", (0,)), good[:2] + ("First", (0,)), good[:2] + (None, (0,)), good[:3] + (0,),
                      good[:3] + ([0],), good[:3] + ((4,),), good[:3] + ((-1,),), good[:3] + ((False,),),
                      good[:3] + (("0",),), ("never", [0, 1]), ("never", (0, 4)), ("never", (0, 1), ()), ("never",),
                      ("Never", (0, 1)), ("ring", (0, 1)), "never", None, ("never", 0), ("never", (0, None))):
            self.refused(BadPaper, {"part": "form"}, check_further, FORK, (0, 1), paper)

    def test_of_anything(self):
        for at, thing in enumerate(odd_things()):
            with self.subTest(at=at):
                for paper in (thing, (thing, (0, 1)), ("never", (thing, 1)), ("checks", (thing,), "first", (0,)),
                              ("checks", (), thing, (0,)), ("checks", (), "one", (thing,)),
                              (thing, (), "one", ()), ("checks", (), "one", (), thing)):
                    self.refused(BadPaper, {"part": "form"}, check_further, FORK, (0, 1), paper)
                if not is_empty(thing):
                    for paper in (("never", thing), ("checks", thing, "one", ()), ("checks", (), "one", thing)):
                        self.refused(BadPaper, {"part": "form"}, check_further, FORK, (0, 1), paper)


class RefusalsTest(Asking):

    asks = ((is_sure, ()), (further, ()), (how_many, ()), (with_checks, (None,)), (check_further, (None,)))

    def test_bad_fetch_first(self):
        for ask, more in self.asks:
            self.refuses_fetches(ask, None, *more)

    def test_glues(self):
        things = odd_things() + [(3,), (0, 3), (0, 0), (1, 0), (0, 2, 1), (0, 1, 1), (-1,), (-1, 0), (True,), (0, True),
                                 (0, 1, 2, 3), [0], [0, 1], "0", ("0",), 0, (None,), (0, None), ((0,), (1,)), {0: 1}]
        for at, thing in enumerate(things):
            with self.subTest(at=at):
                for fetch in (side_by_side(3), IMPOSSIBLE):
                    for ask, more in self.asks:
                        self.refused(BadGlue, {"given": thing}, ask, fetch, thing, *more)

    def test_impossible_fetches(self):
        for glue in ((0,), (1, 2), (0, 1, 2)):
            for ask in (is_sure, further, how_many):
                self.refuses_impossible(ask, glue)
            self.refuses_impossible(with_checks, glue, ())
        self.refuses_impossible(with_checks, (0, 1), ((0, "same", 1),) * 24)

    def test_a_paper_is_refused_ahead_of_the_question(self):
        for paper, part in ((None, "form"), (("never", (0, 2)), "never"), (("never", (1,)), "never"),
                            (("checks", (), "one", ()), "checks"), (("checks", (), "alone", (0,)), "checks"),
                            (("checks", (), "none", ()), "form"), (("checks", (None,), "one", ()), "form")):
            self.refused(BadPaper, {"part": part}, check_further, IMPOSSIBLE, (0, 1), paper)
        for way in ((1, 0), (1, 0, 1), (0, 1, 0), (1, 0, 2, 0, 1)):
            self.refused(BadQuestion, {}, check_further, IMPOSSIBLE, (0, 1), ("never", way))

    def test_what_is_passed_is_not_changed(self):
        glue = [1, 0]
        self.refused(BadGlue, {"given": glue}, is_sure, FORK, glue)
        self.assertEqual(glue, [1, 0])
        checks = [[0, "same", 1]]
        self.refused(BadPaper, {"part": "checks"}, with_checks, FORK, (0, 1), checks)
        self.refused(BadPaper, {"part": "form"}, check_further, FORK, (0, 1), ["checks", checks, "one", []])
        self.assertEqual(checks, [[0, "same", 1]])


if __name__ == "__main__":
    unittest.main()
