"""Tests of wholefetch.kept: point [10]."""

import random
import unittest

from samples import (ALL_HOUSES, CHAIN, ONE_PLACE, Asking, follow, is_possible_by_words, odd_things, some_fetches)
from wholefetch.errors import BadGlue
from wholefetch.kept import best, cover, is_whole, missing, most_kept
from wholefetch.together import classes


def pieces(size, spans, checks=(), house=ONE_PLACE):
    """A FETCH of a file of this SIZE with READs of these bytes, all at the same time."""
    reads = tuple((house[0][0], 0, 9, start, stop) for start, stop in spans)
    return (house, size, reads, tuple(checks))


def row(many):
    """CHECKs that tie so many READs."""
    return [(at, "same", at + 1) for at in range(many - 1)]


def cover_by_bytes(fetch, glue):
    """The COVER, byte by byte; two pieces that meet have no byte between them."""
    held = {at for number in glue for at in range(*fetch[2][number][3:])}
    return runs(held, fetch[1])


def runs(held, size):
    """The pairs (FROM, TO) of the bytes that are held."""
    starts = [at for at in range(size) if at in held and at - 1 not in held]
    stops = [at + 1 for at in range(size) if at in held and at + 1 not in held]
    return tuple(zip(starts, stops))


def shifted(fetch, chance, size):
    """The FETCH with other bytes in its READs."""
    reads = []
    for place, begin, end, _, _ in fetch[2]:
        start = chance.randrange(size)
        reads.append((place, begin, end, start, chance.randint(start + 1, size)))
    return (fetch[0], size, tuple(reads), fetch[3])


class CoverTest(Asking):

    def test_pieces(self):
        for spans, right in (
                ([(0, 5)], ((0, 5),)),
                ([(0, 5), (5, 9)], ((0, 9),)),
                ([(5, 9), (0, 5)], ((0, 9),)),
                ([(0, 5), (6, 9)], ((0, 5), (6, 9))),
                ([(6, 9), (0, 5)], ((0, 5), (6, 9))),
                ([(0, 6), (4, 9)], ((0, 9),)),
                ([(0, 9), (4, 6)], ((0, 9),)),
                ([(4, 6), (0, 9)], ((0, 9),)),
                ([(0, 9), (2, 3), (4, 5), (8, 10)], ((0, 10),)),
                ([(0, 9), (2, 3), (10, 11)], ((0, 9), (10, 11))),
                ([(0, 3), (0, 3), (0, 3)], ((0, 3),)),
                ([(0, 3), (0, 7), (7, 8), (9, 20)], ((0, 8), (9, 20))),
                ([(0, 1), (2, 3), (4, 5), (1, 2), (3, 4)], ((0, 5),)),
                ([(19, 20), (0, 1)], ((0, 1), (19, 20)))):
            fetch = pieces(20, spans)
            self.assertEqual(cover(fetch, tuple(range(len(spans)))), right)
            self.assertEqual(cover(fetch, tuple(range(len(spans)))), right)

    def test_of_the_glue_alone(self):
        fetch = pieces(20, [(0, 5), (5, 9), (12, 20), (9, 12)])
        for glue, right in (((0,), ((0, 5),)), ((2,), ((12, 20),)), ((0, 2), ((0, 5), (12, 20))), ((0, 1), ((0, 9),)),
                            ((1, 2), ((5, 9), (12, 20))), ((1, 2, 3), ((5, 20),)), ((0, 1, 2, 3), ((0, 20),))):
            self.assertEqual(cover(fetch, glue), right)

    def test_large_files(self):
        fetch = pieces(1000000000, [(0, 999999999), (999999999, 1000000000)])
        self.assertEqual(cover(fetch, (0, 1)), ((0, 1000000000),))
        self.assertEqual(cover(fetch, (0,)), ((0, 999999999),))

    def test_byte_by_byte(self):
        chance = random.Random(41)
        for fetch in some_fetches(42, 150, 1, 12, 9, 3, ALL_HOUSES):
            if is_possible_by_words(fetch):
                told = shifted(fetch, chance, chance.choice((1, 5, 30)))
                many = range(len(told[2]))
                glue = tuple(sorted(chance.sample(many, chance.randint(1, len(many)))))
                self.assertEqual(cover(told, glue), cover_by_bytes(told, glue))


class KeptTest(Asking):

    def hold(self, fetch, part, many, left):
        """Holds what is told of what can be KEPT."""
        self.assertEqual(best(fetch), part)
        self.assertEqual(most_kept(fetch), many)
        self.assertEqual(missing(fetch), left)
        self.assertIs(is_whole(fetch), left == ())
        self.assertEqual(missing(fetch), missing(fetch))

    def test_a_whole_file(self):
        self.hold(pieces(20, [(0, 20)]), (0,), 20, ())
        self.hold(pieces(1, [(0, 1)]), (0,), 1, ())
        self.hold(pieces(20, [(0, 5), (5, 20)], row(2)), (0, 1), 20, ())
        self.hold(pieces(20, [(7, 20), (5, 6), (0, 8)], row(3)), (0, 1, 2), 20, ())
        self.hold(pieces(20, [(0, 5), (0, 20), (5, 20)]), (1,), 20, ())
        self.hold(pieces(1000000000, [(0, 500000000), (500000000, 1000000000)], row(2)), (0, 1), 1000000000, ())

    def test_what_is_missing(self):
        self.hold(pieces(20, [(0, 5), (5, 20)]), (1,), 15, ((0, 5),))
        self.hold(pieces(20, [(0, 5), (6, 20)], row(2)), (0, 1), 19, ((5, 6),))
        self.hold(pieces(20, [(1, 19)]), (0,), 18, ((0, 1), (19, 20)))
        self.hold(pieces(20, [(0, 19)]), (0,), 19, ((19, 20),))
        self.hold(pieces(20, [(1, 20)]), (0,), 19, ((0, 1),))
        self.hold(pieces(20, [(4, 6), (12, 13), (2, 5)], row(3)), (0, 1, 2), 5, ((0, 2), (6, 12), (13, 20)))
        self.hold(pieces(21, [(0, 20)]), (0,), 20, ((20, 21),))

    def test_two_classes_with_as_many_bytes(self):
        self.hold(pieces(20, [(0, 5), (5, 10)]), (0,), 5, ((5, 20),))
        self.hold(pieces(20, [(5, 10), (0, 5)]), (0,), 5, ((0, 5), (10, 20)))
        fetch = pieces(20, [(0, 1), (5, 10), (0, 4), (10, 15)], [(0, "same", 2), (1, "same", 3)])
        self.hold(fetch, (1, 3), 10, ((0, 5), (15, 20)))
        self.hold(pieces(20, [(0, 1), (5, 8), (1, 4), (2, 6)], [(1, "same", 0)]), (0, 1), 4, ((1, 5), (8, 20)))

    def test_bytes_are_counted_once(self):
        # READs 0 and 1 have 12 bytes if each is counted, 6 beside each other; READ 2 has 7.
        self.hold(pieces(20, [(0, 6), (0, 6), (9, 16)], [(0, "same", 1)]), (2,), 7, ((0, 9), (16, 20)))
        self.hold(pieces(20, [(0, 6), (3, 8), (9, 16)], [(0, "same", 1)]), (0, 1), 8, ((8, 20),))

    def test_reads_at_moments_and_of_mirrors(self):
        reads = (("b", 0, 2, 0, 5), ("a", 2, 4, 5, 9), ("a", 4, 6, 9, 20))
        self.hold((CHAIN, 20, reads, ()), (2,), 11, ((0, 9),))
        self.hold((CHAIN, 20, reads, ((1, "upto", 0),)), (2,), 11, ((0, 9),))
        self.hold((CHAIN, 20, reads, ((2, "upto", 0),)), (0, 1, 2), 20, ())
        self.hold((CHAIN, 20, reads, ((2, "upto", 1),)), (1, 2), 15, ((0, 5),))

    def test_fetches_by_their_histories(self):
        chance = random.Random(43)
        held = 0
        for fetch in some_fetches(44, 120, 1, 4, 6, 4):
            if is_possible_by_words(fetch):
                held += 1
                told = shifted(fetch, chance, chance.choice((3, 9)))
                many = range(len(told[2]))
                right = follow(told, len(many))
                parts = [tuple(b for b in many if all(versions[a] == versions[b] for versions in right)) for a in many]
                counts = [sum(stop - start for start, stop in cover_by_bytes(told, part)) for part in parts]
                part = parts[counts.index(max(counts))]
                kept = {at for number in part for at in range(*told[2][number][3:])}
                self.hold(told, part, max(counts), runs(set(range(told[1])) - kept, told[1]))
                self.assertIn(part, classes(told))
        self.assertGreater(held, 50)

    def test_more_checks_never_keep_less(self):
        chance = random.Random(45)
        for fetch in some_fetches(46, 80, 2, 8, 9, 8, ALL_HOUSES):
            if is_possible_by_words(fetch):
                house, size, reads, checks = shifted(fetch, chance, 30)
                counts = [most_kept((house, size, reads, checks[:many])) for many in range(len(checks) + 1)]
                self.assertEqual(counts, sorted(counts))


class RefusalsTest(Asking):

    def test_bad_fetch_first(self):
        self.refuses_fetches(cover, None)
        for ask in (best, most_kept, missing, is_whole):
            self.refuses_fetches(ask)

    def test_impossible_fetches(self):
        for glue in ((0,), (2,), (0, 1, 2)):
            self.refuses_impossible(cover, glue)
        for ask in (best, most_kept, missing, is_whole):
            self.refuses_impossible(ask)

    def test_glues(self):
        things = odd_things() + [(2,), (0, 2), (0, 0), (1, 0), (-1,), (True,), [0], 0, "0", ("0",), (0, None), (0, 1, 2)]
        for at, thing in enumerate(things):
            with self.subTest(at=at):
                for checks in ((), [(0, "newer", 1), (0, "same", 1)]):
                    self.refused(BadGlue, {"given": thing}, cover, pieces(20, [(0, 5), (5, 9)], checks), thing)


if __name__ == "__main__":
    unittest.main()
