"""What the tests share: samples, wrong values of every kind, and a slow model by the words of DOC.md."""

import itertools
import random
import unittest

from wholefetch.errors import BadFetch, BadQuestion

ONE_PLACE = (("a", None),)
CHAIN = (("a", None), ("b", "a"), ("c", "b"), ("d", "c"))
TREE = (("hub", None), ("left", "hub"), ("lone", None), ("right", "hub"))
FULL = (("abcdefgh", None), ("b", "abcdefgh"), ("z", "b"), ("zz", "z"))
HOUSES = (
    ONE_PLACE,
    (("a", None), ("b", "a")),
    (("a", "b"), ("b", None)),
    (("a", None), ("b", None)),
    (("a", None), ("b", "a"), ("c", "b")),
    (("a", "b"), ("b", "c"), ("c", None)),
    (("a", None), ("b", "a"), ("c", "a")),
)
ALL_HOUSES = HOUSES + (CHAIN, TREE, FULL)
WORDS = ("same", "upto", "newer")
HUGE = 10 ** 5000


def fetch_of(house, spans, checks=()):
    """A FETCH with the READs (PLACE, BEGIN, END), each of a byte of its own."""
    reads = tuple((place, begin, end, at, at + 1) for at, (place, begin, end) in enumerate(spans))
    return (house, 100, reads, tuple(checks))


def side_by_side(many, checks=()):
    """A FETCH of so many READs of one PLACE, all at the same time: only CHECKs bring ARROWs."""
    return fetch_of(ONE_PLACE, [("a", 0, 9)] * many, checks)


def one_by_one(many, checks=()):
    """A FETCH of so many READs of one PLACE, one behind the other."""
    return fetch_of(ONE_PLACE, [("a", at, at + 1) for at in range(many)], checks)


def nested(maker, deep=5000):
    """A value nested thousands deep."""
    thing = maker(None)
    for _ in range(deep):
        thing = maker(thing)
    return thing


class Thing:
    """A value of a kind that the program does not know, which nothing may be done with."""

    def __eq__(self, other):
        raise RuntimeError("compared")

    def __hash__(self):
        raise RuntimeError("hashed")

    def __len__(self):
        raise RuntimeError("counted")

    def __bool__(self):
        raise RuntimeError("asked for its truth")

    def __iter__(self):
        raise RuntimeError("gone through")


def odd_things():
    """Values of every kind but floats; none of them is a HOUSE, a FETCH, a PLACE or a number of a READ."""
    deep = nested(lambda thing: (thing,))
    plain = [
        None, True, False, -1, HUGE, -HUGE, "", "A", "abcdefghi", "a b", "a" * 20000, "\n", b"", b"a",
        (), [], {}, set(), frozenset(), 1j, Ellipsis, NotImplemented, range(3), object(), Thing(), len,
        int, Thing, ValueError("x"), bytearray(b"a"), memoryview(b"a"), deep,
        nested(lambda thing: [thing]), nested(lambda thing: {"a": thing}), nested(lambda thing: (thing, thing), 3000),
    ]
    held = [(thing,) for thing in plain] + [[thing] for thing in plain] + [{"a": thing} for thing in plain]
    return plain + held + [(thing, thing) for thing in plain] + [(thing,) * 4 for thing in plain]


def some_fetches(seed, many, fewest, most, span=4, checks=3, houses=HOUSES):
    """So many FETCHes, the same ones each time, with from fewest to most READs."""
    chance = random.Random(seed)
    told = []
    for _ in range(many):
        house = chance.choice(houses)
        spans = []
        for _ in range(chance.randint(fewest, most)):
            begin = chance.randrange(span)
            spans.append((chance.choice(house)[0], begin, chance.randint(begin + 1, span)))
        told.append(fetch_of(house, spans, some_checks(chance, len(spans), chance.randint(0, checks))))
    return told


def some_checks(chance, reads, many):
    """So many CHECKs of so many READs, now and then one that is told twice."""
    told = []
    for _ in range(many if reads > 1 else 0):
        one, other = chance.sample(range(reads), 2)
        told.append((one, chance.choice(WORDS), other))
        if chance.randrange(5) == 0 and len(told) < many:
            told.append(told[-1])
    return told[:many]


def check_holds(check, versions):
    """Whether versions pass a CHECK, by the words of [3]."""
    one, word, other = check
    if word == "same":
        return versions[one] == versions[other]
    if word == "upto":
        return not versions[one] > versions[other]
    return versions[one] > versions[other]


def is_history(fetch, versions):
    """Whether versions are a HISTORY, by the words of [4]."""
    house, size, reads, checks = fetch
    return all(check_holds(check, versions) for check in checks) and can_show(house, reads, versions)


def can_show(house, reads, versions):
    """Whether PLACEs can show the READs so: all that they can show from moment to moment is gone through.

    A state is what each PLACE shows and which READs have been of their versions. At a moment there is one state;
    between two moments as many as one likes, one behind the other. A version that no READ is of can be
    replaced by the next lesser one that some READ is of, or by the least one.
    """
    names = [name for name, of in house]
    shown = states_of(house, sorted(set(versions)))
    after = {state: [late for late in shown if all(x <= y for x, y in zip(state, late))] for state in shown}
    wants = [(names.index(place), begin, end, version)
             for (place, begin, end, _, _), version in zip(reads, versions)]

    def seen(state, met, low, high):
        """The READs met, with those that are amid the moments from low to high and find their version."""
        more = [at for at, (place, begin, end, version) in enumerate(wants)
                if begin <= low and high <= end and state[place] == version]
        return met | frozenset(more)

    reached = {(state, frozenset()) for state in shown}
    for moment in range(max(end for _, _, end, _ in wants) + 1):
        reached = {(late, seen(late, met, moment, moment)) for state, met in reached for late in after[state]}
        over = {at for at, want in enumerate(wants) if want[2] <= moment}
        reached = {(state, met) for state, met in reached if over <= met}
        fresh = reached
        while fresh:
            fresh = {(late, seen(late, met, moment, moment + 1))
                     for state, met in fresh for late in after[state]} - reached
            reached = reached | fresh
    return bool(reached)


def states_of(house, values):
    """All that the PLACEs can show at one moment: none a greater version than its OF."""
    names = [name for name, of in house]
    told = []
    for state in itertools.product(values, repeat=len(house)):
        if all(of is None or state[at] <= state[names.index(of)] for at, (name, of) in enumerate(house)):
            told.append(state)
    return told


def histories(fetch, top):
    """The set of all HISTORIES with versions from 0 to top."""
    tuples = itertools.product(range(top + 1), repeat=len(fetch[2]))
    return {versions for versions in tuples if is_history(fetch, versions)}


def arrows_by_words(fetch):
    """The ARROWs by the words of [5], as a dict from a pair to whether it is STRICT."""
    house, size, reads, checks = fetch
    ofs = dict(house)

    def under(place, other):
        return place == other or (ofs[place] is not None and under(ofs[place], other))

    told = {}
    for one, other in itertools.permutations(range(len(reads)), 2):
        plain = [reads[one][2] <= reads[other][1] and under(reads[one][0], reads[other][0])]
        plain += [(a, b) in ((one, other), (other, one)) for a, word, b in checks if word == "same"]
        plain += [(a, b) == (one, other) for a, word, b in checks if word == "upto"]
        strict = any((b, a) == (one, other) for a, word, b in checks if word == "newer")
        if strict or any(plain):
            told[one, other] = strict
    return told


def gaps_by_words(fetch):
    """All GAPs of a FETCH that is possible, as a list of lists: the most STRICT ARROWs of WAYs."""
    told = arrows_by_words(fetch)
    return [gaps_from(told, len(fetch[2]), one) for one in range(len(fetch[2]))]


def gaps_from(told, many, one):
    """The GAPs from one of so many READs; the WAYs that tell them come to no READ twice."""
    best = {one: 0}
    for _ in range(many):
        for (a, b), strict in told.items():
            if a in best and best[a] + strict > best.get(b, -1):
                best[b] = best[a] + strict
    return [best.get(other) for other in range(many)]


def gap_by_words(fetch, one, other):
    """The GAP of a FETCH that is possible."""
    return gaps_by_words(fetch)[one][other]


def is_possible_by_words(fetch):
    """Whether versions that are raised along all ARROWs, as long as they have to be, come to rest."""
    told = arrows_by_words(fetch)
    versions = [0] * len(fetch[2])
    rising = True
    while rising and max(versions) < len(versions):
        rising = False
        for (one, other), strict in told.items():
            if versions[other] < versions[one] + strict:
                versions[other] = versions[one] + strict
                rising = True
    return not rising


def follow(fetch, top):
    """The list of all tuples of versions from 0 to top that follow the ARROWs, by the Fact of [5]."""
    told = arrows_by_words(fetch).items()
    tuples = itertools.product(range(top + 1), repeat=len(fetch[2]))
    return [versions for versions in tuples if all(versions[a] + s <= versions[b] for (a, b), s in told)]


def with_more(fetch, checks):
    """The FETCH with CHECKs put behind the others."""
    house, size, reads, ahead = fetch
    return (house, size, reads, ahead + tuple(checks))


def further_checks(glue):
    """All FURTHER CHECKs of a GLUE, each "same" once."""
    told = [(one, "upto", other) for one, other in itertools.permutations(glue, 2)]
    return told + [(one, "same", other) for one, other in itertools.combinations(glue, 2)]


def changed(thing):
    """All that comes of a value if it is changed in one place, in ways that papers may be wrong in."""
    if isinstance(thing, tuple):
        for at, item in enumerate(thing):
            head, tail = thing[:at], thing[at + 1:]
            yield head + tail
            yield head + (item, item) + tail
            if tail:
                yield head + (tail[0], item) + tail[1:]
            for other in changed(item):
                yield head + (other,) + tail
        yield thing + (0,)
        yield list(thing)
    elif isinstance(thing, str):
        for word in ("history", "ring", "apart", "checks", "never", "one", "alone", "first", "last", "", thing + " ") + WORDS:
            yield word
    else:
        for number in list(range(6)) + [thing - 1, thing + 1, 99, 100, HUGE, True, None, str(thing), (thing,)]:
            yield number
    for other in (None, False, "x", (), 7):
        yield other


def are_numbers(thing, top):
    """Whether it is a tuple of integers from 0 to top."""
    return type(thing) is tuple and all(type(item) is int and 0 <= item <= top for item in thing)


def is_empty(thing):
    """Whether it is the tuple without items."""
    return type(thing) is tuple and len(thing) == 0


def is_way_by_words(fetch, numbers):
    """Whether numbers of READs are a WAY."""
    told = arrows_by_words(fetch)
    return len(numbers) > 0 and all(step in told for step in zip(numbers, numbers[1:]))


def is_ring_by_words(fetch, numbers):
    """Whether numbers of READs are a RING."""
    return len(numbers) > 1 and numbers[0] == numbers[-1] and is_way_by_words(fetch, numbers)


def rises_by_words(fetch, way):
    """Whether a WAY has a STRICT ARROW."""
    told = arrows_by_words(fetch)
    return any(told[step] for step in zip(way, way[1:]))


class Asking(unittest.TestCase):
    """A test case that asks for what is refused."""

    def refused(self, kind, told, ask, *given):
        """That a call raises an error of this class itself, with these attributes and no other ones."""
        with self.assertRaises(kind) as caught:
            ask(*given)
        self.assertIs(caught.exception.__class__, kind)
        self.assertEqual(set(vars(caught.exception)), set(told))
        for name, worth in told.items():
            found = getattr(caught.exception, name)
            self.assertTrue(found is worth or (isinstance(worth, (str, int)) and found == worth), name)

    def refuses_fetches(self, ask, *more):
        """That a function refuses what is no FETCH, ahead of all else."""
        for at, thing in enumerate(odd_things()):
            with self.subTest(at=at):
                self.assertRaises(BadFetch, ask, thing, *more)
        house, size, reads, checks = side_by_side(3, [(0, "same", 1)])
        for fetch, part, number in (
                ((house, size, reads), "form", None), ([house, size, reads, checks], "form", None),
                ((None, size, reads, checks), "house", None), ((house + (5,), size, reads, checks), "house", 1),
                ((house, 0, reads, checks), "size", None), ((house, size, (), checks), "reads", None),
                ((house, size, reads + (5,), checks), "reads", 3), ((house, size, reads, checks * 25), "checks", None),
                ((house, size, reads, checks + ((0, "same", 3),)), "checks", 1)):
            self.refused(BadFetch, {"part": part, "number": number}, ask, fetch, *more)

    def refuses_impossible(self, ask, *more):
        """That a function refuses FETCHes of three READs that are IMPOSSIBLE."""
        for checks in ([(0, "newer", 1), (1, "newer", 0)], [(0, "upto", 1), (1, "upto", 2), (0, "newer", 2)],
                       [(0, "same", 1), (0, "same", 2), (2, "newer", 1)]):
            self.refused(BadQuestion, {}, ask, side_by_side(3, checks), *more)
        self.refused(BadQuestion, {}, ask, one_by_one(3, [(0, "newer", 2)]), *more)
