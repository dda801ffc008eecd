"""Tests of wholefetch.shelf: point [15]."""

import random
import unittest

from samples import (ALL_HOUSES, HUGE, Asking, Thing, gaps_by_words, is_possible_by_words, nested, odd_things,
                     one_by_one, side_by_side, some_checks, some_fetches)
from wholefetch.errors import BadFetch, BadNumber, BadQuestion, FetchError, Missing, Parts
from wholefetch.likeness import lean, parted
from wholefetch.shelf import Shelf, under

SAME = side_by_side(2, [(0, "same", 1)])
HALVES = side_by_side(2, [(0, "upto", 1), (1, "upto", 0)])
FREE = side_by_side(2)
THREE = side_by_side(3)
IMPOSSIBLE = side_by_side(2, [(0, "newer", 1), (1, "newer", 0)])
NO_NAMES = ("", "A", "a1", "a b", " a", "abcdefghi", "a\n", "a" * 9, "_", "-", "~", b"a", ("a",), ["a"], Thing())


def full(many):
    """A FETCH with so many CHECKs."""
    return side_by_side(2, [(0, "same", 1)] * many)


def shelf_of(kept):
    """A new shelf with the FETCHes of a dict."""
    shelf = Shelf()
    for name, fetch in kept.items():
        shelf[name] = fetch
    return shelf


class Keeping(Asking):

    def hold(self, shelf, kept):
        """Holds what a shelf tells against a dict; what can be undone is not asked for."""
        names = tuple(sorted(kept))
        self.assertEqual(shelf.names(), names)
        self.assertEqual(len(shelf), len(names))
        for name in names:
            self.assertEqual(shelf[name], kept[name])
            self.assertIs(name in shelf, True)
            self.assertIs(name not in shelf, False)
        for name in ("none", "A", "", None, 0, [names], names, nested(lambda thing: (thing,))):
            self.assertIs(name in shelf, False)
            self.refused(Missing, {"name": name}, lambda: shelf[name])
        other = shelf_of(kept)
        self.assertIs(shelf == other, True)
        self.assertIs(shelf != other, False)
        self.assertIs(other == shelf, True)
        other["other"] = FREE
        self.assertIs(shelf == other, False)
        self.assertIs(shelf != other, True)
        self.assertIs(other == shelf, False)

    def undo_all(self, shelf, ahead):
        """Undoes all, deed by deed, down the states that were ahead, the last one last."""
        for kept in ahead[::-1]:
            self.assertIs(shelf.undo(), True)
            self.hold(shelf, kept)
        self.assertIs(shelf.undo(), False)
        self.assertIs(shelf.undo(), False)
        self.hold(shelf, ahead[0] if ahead else {})


class ShelfTest(Keeping):

    def test_an_empty_shelf(self):
        shelf = Shelf()
        self.hold(shelf, {})
        self.assertEqual((shelf.names(), len(shelf)), ((), 0))
        self.assertIs(shelf.undo(), False)
        self.hold(shelf, {})

    def test_putting(self):
        shelf = Shelf()
        shelf["b"] = SAME
        self.hold(shelf, {"b": SAME})
        shelf["abcdefgh"] = IMPOSSIBLE
        shelf["a"] = THREE
        self.assertEqual(shelf.names(), ("a", "abcdefgh", "b"))
        self.hold(shelf, {"b": SAME, "abcdefgh": IMPOSSIBLE, "a": THREE})
        shelf["b"] = FREE
        self.hold(shelf, {"b": FREE, "abcdefgh": IMPOSSIBLE, "a": THREE})
        self.undo_all(shelf, [{}, {"b": SAME}, {"b": SAME, "abcdefgh": IMPOSSIBLE},
                              {"b": SAME, "abcdefgh": IMPOSSIBLE, "a": THREE}])

    def test_the_order_of_putting_is_not_told(self):
        one, other = shelf_of({"a": SAME, "b": FREE}), shelf_of({"b": FREE, "a": SAME})
        self.assertTrue(one == other)
        self.assertEqual(one.names(), other.names())
        other["a"] = FREE
        self.assertFalse(one == other)
        other["a"] = SAME
        self.assertTrue(one == other)
        other.forget("b")
        self.assertFalse(one == other)

    def test_alike_fetches_are_not_the_same(self):
        self.assertFalse(shelf_of({"a": SAME}) == shelf_of({"a": HALVES}))
        self.assertFalse(shelf_of({"a": SAME}) == shelf_of({"b": SAME}))
        self.assertFalse(Shelf() == shelf_of({"b": SAME}))

    def test_other_values_are_no_shelves(self):
        for shelf in (Shelf(), shelf_of({"a": SAME})):
            for other in odd_things() + [{"a": SAME}, ("a",), shelf.names(), Shelf, 0, 1]:
                self.assertIs(shelf == other, False)
                self.assertIs(shelf != other, True)

    def test_shelves_are_apart(self):
        one, other = Shelf(), Shelf()
        one["a"] = SAME
        self.hold(other, {})
        self.assertIs(other.undo(), False)
        self.hold(one, {"a": SAME})

    def test_a_shelf_is_not_gone_through(self):
        for shelf in (Shelf(), shelf_of({"a": SAME})):
            for ask in (iter, list, tuple, set, sorted, lambda given: [*given], lambda given: [one for one in given]):
                with self.assertRaises(TypeError):
                    ask(shelf)

    def test_forget(self):
        shelf = shelf_of({"a": SAME, "b": FREE})
        self.assertIsNone(shelf.forget("a"))
        self.hold(shelf, {"b": FREE})
        self.refused(Missing, {"name": "a"}, shelf.forget, "a")
        shelf.forget("b")
        self.hold(shelf, {})
        self.undo_all(shelf, [{}, {"a": SAME}, {"a": SAME, "b": FREE}, {"b": FREE}])

    def test_replace(self):
        shelf = shelf_of({"a": SAME, "b": IMPOSSIBLE})
        self.assertIsNone(shelf.replace("a", HALVES))
        self.hold(shelf, {"a": HALVES, "b": IMPOSSIBLE})
        other = one_by_one(2, [(0, "newer", 1)])
        shelf.replace("b", other)
        self.hold(shelf, {"a": HALVES, "b": other})
        shelf.replace("a", HALVES)
        self.undo_all(shelf, [{}, {"a": SAME}, {"a": SAME, "b": IMPOSSIBLE}, {"a": HALVES, "b": IMPOSSIBLE},
                              {"a": HALVES, "b": other}])

    def test_replace_by_one_that_is_not_alike(self):
        shelf = shelf_of({"a": SAME, "b": IMPOSSIBLE})
        for name, fetch in (("a", FREE), ("a", IMPOSSIBLE), ("b", FREE), ("b", SAME), ("a", one_by_one(2))):
            with self.assertRaises(Parts) as caught:
                shelf.replace(name, fetch)
            self.assertEqual(vars(caught.exception), {"history": parted(shelf[name], fetch)})
            self.assertIs(type(caught.exception), Parts)
            self.hold(shelf, {"a": SAME, "b": IMPOSSIBLE})
        self.undo_all(shelf, [{}, {"a": SAME}])

    def test_add(self):
        shelf = shelf_of({"a": FREE})
        self.assertIsNone(shelf.add("a", (0, "same", 1)))
        self.hold(shelf, {"a": SAME})
        shelf.add("a", (0, "newer", 1))
        self.hold(shelf, {"a": side_by_side(2, [(0, "same", 1), (0, "newer", 1)])})
        self.undo_all(shelf, [{}, {"a": FREE}, {"a": SAME}])

    def test_the_24th_check_and_the_25th(self):
        shelf = shelf_of({"a": full(23)})
        shelf.add("a", (0, "same", 1))
        self.hold(shelf, {"a": full(24)})
        for check in ((0, "same", 1), None, (0, "same", 2)):
            self.refused(BadFetch, {"part": "checks", "number": None}, shelf.add, "a", check)
        self.hold(shelf, {"a": full(24)})
        self.undo_all(shelf, [{}, {"a": full(23)}])

    def test_drop(self):
        checks = ((0, "upto", 1), (0, "same", 1), (1, "upto", 0))
        shelf = shelf_of({"a": side_by_side(2, checks)})
        self.assertIsNone(shelf.drop("a", 1))
        self.hold(shelf, {"a": HALVES})
        shelf.drop("a", 0)
        shelf.drop("a", 0)
        self.hold(shelf, {"a": FREE})
        self.refused(BadNumber, {"given": 0}, shelf.drop, "a", 0)
        self.undo_all(shelf, [{}, {"a": side_by_side(2, checks)}, {"a": HALVES}, {"a": side_by_side(2, checks[2:])}])

    def test_make_lean(self):
        shelf = shelf_of({"a": full(24), "b": SAME, "c": side_by_side(2, IMPOSSIBLE[3] + ((0, "same", 1),))})
        ahead = [{}, {"a": full(24)}, {"a": full(24), "b": SAME}]
        for name, fewer in (("a", 23), ("b", 0), ("c", 1), ("a", 0)):
            kept = {name: shelf[name] for name in shelf.names()}
            ahead.append(kept)
            self.assertEqual(shelf.make_lean(name), fewer)
            self.hold(shelf, {**kept, name: lean(kept[name])})
        self.assertEqual((shelf["a"], shelf["b"], len(shelf["c"][3])), (SAME, SAME, 2))
        self.undo_all(shelf, ahead)

    def test_changes_that_leave_all_as_it_was(self):
        shelf = shelf_of({"a": SAME})
        kept = {"a": SAME}
        shelf["a"] = SAME
        shelf.replace("a", SAME)
        self.assertEqual(shelf.make_lean("a"), 0)
        self.hold(shelf, kept)
        self.undo_all(shelf, [{}, kept, kept, kept])

    def test_deeds_behind_an_undo(self):
        shelf = shelf_of({"a": SAME, "b": FREE})
        self.assertIs(shelf.undo(), True)
        shelf["c"] = THREE
        self.hold(shelf, {"a": SAME, "c": THREE})
        self.undo_all(shelf, [{}, {"a": SAME}])
        shelf["d"] = THREE
        self.hold(shelf, {"d": THREE})
        self.undo_all(shelf, [{}])


class TrialTest(Keeping):

    def test_what_as_gives(self):
        shelf = Shelf()
        with shelf.trial() as one:
            self.assertIs(one, shelf)

    def test_behind_the_block_all_is_as_it_was(self):
        shelf = shelf_of({"a": SAME, "b": FREE})
        with shelf.trial() as one:
            one["c"] = THREE
            one.forget("a")
            one.add("b", (0, "same", 1))
            self.hold(shelf, {"b": SAME, "c": THREE})
            self.assertIs(shelf.undo(), True)
            self.hold(shelf, {"b": FREE, "c": THREE})
        self.hold(shelf, {"a": SAME, "b": FREE})
        self.undo_all(shelf, [{}, {"a": SAME}])

    def test_undo_goes_back_behind_the_begin(self):
        shelf = shelf_of({"a": SAME, "b": FREE})
        with shelf.trial():
            shelf["a"] = THREE
            self.undo_all(shelf, [{}, {"a": SAME}, {"a": SAME, "b": FREE}])
            shelf["d"] = SAME
        self.hold(shelf, {"a": SAME, "b": FREE})
        self.undo_all(shelf, [{}, {"a": SAME}])

    def test_an_error_goes_on(self):
        shelf = shelf_of({"a": SAME})
        for kind in (KeyError, RuntimeError, KeyboardInterrupt, FetchError):
            error = kind("x")
            with self.assertRaises(kind) as caught:
                with shelf.trial() as one:
                    one.forget("a")
                    raise error
            self.assertIs(caught.exception, error)
            self.hold(shelf, {"a": SAME})
        with self.assertRaises(Missing):
            with shelf.trial() as one:
                one["b"] = FREE
                one.forget("c")
        self.hold(shelf, {"a": SAME})
        self.undo_all(shelf, [{}])

    def test_it_ends_by_return_and_break(self):
        shelf = shelf_of({"a": SAME})

        def leave():
            with shelf.trial() as one:
                one.forget("a")
                return len(one)

        self.assertEqual(leave(), 0)
        for _ in range(2):
            with shelf.trial() as one:
                one.undo()
                break
        self.hold(shelf, {"a": SAME})
        self.undo_all(shelf, [{}])

    def test_a_trial_in_a_trial(self):
        shelf = shelf_of({"a": SAME})
        with shelf.trial():
            shelf["b"] = FREE
            with shelf.trial() as one:
                one["c"] = THREE
                self.assertTrue(one.undo() and one.undo() and one.undo())
                self.hold(shelf, {})
            self.hold(shelf, {"a": SAME, "b": FREE})
            with self.assertRaises(Missing):
                with shelf.trial():
                    shelf.forget("a")
                    shelf.forget("a")
            self.hold(shelf, {"a": SAME, "b": FREE})
            self.assertIs(shelf.undo(), True)
            self.hold(shelf, {"a": SAME})
        self.hold(shelf, {"a": SAME})
        self.undo_all(shelf, [{}])

    def test_it_begins_with_the_block(self):
        shelf = Shelf()
        trial = shelf.trial()
        shelf["a"] = SAME
        with trial as one:
            one["b"] = FREE
        self.hold(shelf, {"a": SAME})
        self.undo_all(shelf, [{}])

    def test_a_block_that_does_nothing(self):
        shelf = shelf_of({"a": SAME})
        with shelf.trial():
            pass
        shelf["a"] = FREE
        self.undo_all(shelf, [{}, {"a": SAME}])

    def test_under(self):
        shelf = shelf_of({"a": SAME})

        def deed(one):
            self.assertIs(one, shelf)
            one["b"] = FREE
            return one.names()

        self.assertEqual(under(shelf.trial(), deed), ("a", "b"))
        self.hold(shelf, {"a": SAME})
        with self.assertRaises(Missing):
            under(shelf.trial(), lambda one: one.forget("z"))
        self.assertEqual(under(shelf.trial(), lambda one: under(one.trial(), deed)), ("a", "b"))
        self.assertIsNone(under(shelf.trial(), lambda one: None))
        self.undo_all(shelf, [{}])

    def test_under_other_managers(self):
        told = []

        class Manager:
            def __enter__(self):
                told.append("begin")
                return "one"

            def __exit__(self, kind, value, trace):
                told.append("end")

        self.assertEqual(under(Manager(), lambda one: (one, tuple(told))), ("one", ("begin",)))
        self.assertEqual(told, ["begin", "end"])


class RefusalsTest(Keeping):

    def setUp(self):
        self.kept = {"a": SAME, "b": FREE}
        self.shelf = shelf_of(self.kept)

    def tearDown(self):
        """What raised an error has changed nothing, and cannot be undone."""
        self.hold(self.shelf, self.kept)
        self.undo_all(self.shelf, [{}, {"a": SAME}])

    def put(self, name, fetch):
        self.shelf[name] = fetch

    def test_names_that_are_not_there(self):
        shelf = self.shelf
        for name in odd_things() + list(NO_NAMES) + ["c", "aa", "ab"]:
            for ask in (lambda told: shelf[told], shelf.forget, lambda told: shelf.replace(told, FREE),
                        lambda told: shelf.replace(told, None), lambda told: shelf.replace(told, THREE),
                        lambda told: shelf.add(told, (0, "same", 1)), lambda told: shelf.add(told, None),
                        lambda told: shelf.drop(told, 0), lambda told: shelf.drop(told, None), shelf.make_lean):
                self.refused(Missing, {"name": name}, ask, name)
            self.assertIs(name in shelf, False)

    def test_what_is_no_name(self):
        for name in odd_things() + list(NO_NAMES):
            for fetch in (SAME, None, IMPOSSIBLE, FREE[:3]):
                self.refused(BadQuestion, {}, self.put, name, fetch)

    def test_what_is_no_fetch(self):
        self.refuses_fetches(lambda fetch: self.put("a", fetch))
        self.refuses_fetches(lambda fetch: self.put("new", fetch))
        self.refuses_fetches(lambda fetch: self.shelf.replace("a", fetch))

    def test_unlike_numbers_of_reads(self):
        for fetch in (THREE, side_by_side(1), side_by_side(3, [(0, "newer", 1), (1, "newer", 0)])):
            for name in ("a", "b"):
                self.refused(BadQuestion, {}, self.shelf.replace, name, fetch)

    def test_what_is_no_check(self):
        for check in odd_things() + [(0, "same"), (0, "same", 1, 1), [0, "same", 1], (0, "same", 0), (0, "same", 2),
                                     (0, "older", 1), (True, "same", 0), (0, "same", -1), (0, "same", HUGE), (0, None, 1)]:
            self.refused(BadFetch, {"part": "checks", "number": 1}, self.shelf.add, "a", check)
            self.refused(BadFetch, {"part": "checks", "number": 0}, self.shelf.add, "b", check)

    def test_what_is_no_number_of_a_check(self):
        for number in odd_things() + [1, -1, "0", (0,), True, False]:
            self.refused(BadNumber, {"given": number}, self.shelf.drop, "a", number)
        for number in odd_things() + [0]:
            self.refused(BadNumber, {"given": number}, self.shelf.drop, "b", number)


class WalkTest(Keeping):
    """Rows of deeds, held against a plain walk that keeps every state ahead."""

    NAMES = ("a", "b", "mirror", "abcdefgh", "c", "A", None)

    def start(self, seed):
        """A walk with a new shelf, and the FETCHes that it takes."""
        self.chance = random.Random(seed)
        self.shelf = Shelf()
        self.ahead = []
        self.kept = {}
        self.said = {}
        self.pool = some_fetches(seed, 6, 1, 4, 5, 4, ALL_HOUSES) + [SAME, HALVES, FREE, IMPOSSIBLE, full(24), full(23)]

    def alike(self, one, other):
        """Whether two FETCHes with as many READs are ALIKE, by the Fact of [11]."""
        tables = [gaps_by_words(fetch) if is_possible_by_words(fetch) else None for fetch in (one, other)]
        return tables[0] == tables[1]

    def some_fetch(self, name):
        """A FETCH to be put by a NAME: any, or one that is ALIKE to what is there."""
        choice = self.chance.randrange(6)
        if choice == 0:
            return self.chance.choice((None, SAME[:3]))
        if name in self.kept and choice < 4:
            house, size, reads, checks = self.kept[name]
            return (house, size, reads, checks[::-1])
        return self.chance.choice(self.pool)

    def some_deed(self):
        """A deed, as (method, arguments, what it returns or raises, what is kept by the NAME behind it)."""
        name = self.chance.choice(sorted(self.kept) * 4 + list(self.NAMES))
        there = self.kept.get(name)
        word = self.chance.choice(("set", "set", "forget", "replace", "replace", "add", "add", "drop", "drop", "make_lean"))
        if word == "set":
            fetch = self.some_fetch(name)
            wrong = BadQuestion if name in ("A", None) else BadFetch if fetch is None or len(fetch) < 4 else None
            return ("__setitem__", (name, fetch), wrong, fetch)
        if word == "forget":
            return (word, (name,), None if there else Missing, None)
        if word == "make_lean":
            return (word, (name,), len(there[3]) - len(lean(there)[3]) if there else Missing, there and lean(there))
        if word == "replace":
            fetch = self.some_fetch(name)
            return (word, (name, fetch), self.wrong_of_replace(there, fetch), fetch)
        if word == "add":
            check = (some_checks(self.chance, len(there[2]) if there else 3, 1) + [(0, "same", 9)])[0]
            wrong = BadFetch if there and (len(there[3]) == 24 or check[2] == 9) else None if there else Missing
            return (word, (name, check), wrong, there and there[:3] + (there[3] + (check,),))
        number = self.chance.randrange(4)
        wrong = BadNumber if there and number >= len(there[3]) else None if there else Missing
        return (word, (name, number), wrong, there and there[:3] + (there[3][:number] + there[3][number + 1:],))

    def wrong_of_replace(self, there, fetch):
        """What replace raises, or None."""
        if there is None:
            return Missing
        if fetch is None or len(fetch) < 4:
            return BadFetch
        if len(there[2]) != len(fetch[2]):
            return BadQuestion
        return None if self.alike(there, fetch) else Parts

    def step(self):
        """One deed on the shelf and on the walk."""
        method, given, told, behind = self.some_deed()
        said = told.__name__ if isinstance(told, type) else "done"
        self.said[method, said] = self.said.get((method, said), 0) + 1
        if isinstance(told, type):
            with self.assertRaises(told) as caught:
                getattr(self.shelf, method)(*given)
            self.assertIs(type(caught.exception), told)
            return
        self.assertEqual(getattr(self.shelf, method)(*given), told)
        self.ahead.append(self.kept)
        self.kept = {name: fetch for name, fetch in self.kept.items() if name != given[0]}
        if method != "forget":
            self.kept[given[0]] = behind

    def back(self):
        """One undo on the shelf and on the walk."""
        self.assertIs(self.shelf.undo(), bool(self.ahead))
        if self.ahead:
            self.kept = self.ahead.pop()

    def walk(self, many, deep):
        """So many deeds, now and then a trial with deeds of its own."""
        for _ in range(many):
            choice = self.chance.randrange(9)
            if choice < 2:
                self.back()
            elif choice == 2 and deep > 0:
                kept, ahead = self.kept, list(self.ahead)
                try:
                    with self.shelf.trial():
                        self.walk(self.chance.randrange(12), deep - 1)
                        if self.chance.randrange(2):
                            raise ZeroDivisionError
                except ZeroDivisionError:
                    self.said["trial"] = self.said.get("trial", 0) + 1
                self.kept, self.ahead = kept, ahead
            else:
                self.step()
            self.hold(self.shelf, self.kept)

    def test_rows_of_deeds(self):
        said = {}
        for seed in range(20):
            self.start(100 + seed)
            self.walk(80, 2)
            self.undo_all(self.shelf, self.ahead)
            for told, many in self.said.items():
                said[told] = said.get(told, 0) + many
        for told in (("__setitem__", "done"), ("__setitem__", "BadQuestion"), ("__setitem__", "BadFetch"),
                     ("forget", "done"), ("forget", "Missing"), ("replace", "done"), ("replace", "Missing"),
                     ("replace", "BadFetch"), ("replace", "BadQuestion"), ("replace", "Parts"), ("add", "done"),
                     ("add", "Missing"), ("add", "BadFetch"), ("drop", "done"), ("drop", "Missing"),
                     ("drop", "BadNumber"), ("make_lean", "done"), ("make_lean", "Missing"), "trial"):
            self.assertGreater(said.get(told, 0), 4, told)

    def test_a_long_row(self):
        self.start(99)
        for _ in range(400):
            self.step()
        self.undo_all(self.shelf, self.ahead)


if __name__ == "__main__":
    unittest.main()
