"""Tests over the whole program: point [1], and the opening of the interface."""

import copy
import importlib
import inspect
import unittest

from samples import HUGE, Asking, Thing, odd_things, side_by_side
from wholefetch import (clients, desk, errors, fetches, further, gaps, houses, kept, likeness, shelf, texts, together)
from wholefetch.errors import (BadClient, BadFetch, BadGlue, BadHistory, BadHouse, BadNumber, BadPaper, BadQuestion, BadRun,
                               BadText, FetchError)

# The functions of each file, with the numbers of their arguments.
FUNCTIONS = {
    "houses": {"need_house": 1, "is_under": 3},
    "fetches": {"need_fetch": 1, "arrows": 1},
    "gaps": {"is_possible": 1, "judged": 1, "check_judged": 2, "gap": 3, "level": 1, "few_versions": 1, "lets": 2},
    "together": {"together": 3, "classes": 1, "on_pair": 3, "check_pair": 4},
    "further": {"is_sure": 2, "further": 2, "how_many": 2, "with_checks": 3, "check_further": 3},
    "kept": {"cover": 2, "most_kept": 1, "best": 1, "missing": 1, "is_whole": 1},
    "likeness": {"alike": 2, "parted": 2, "needless": 1, "lean": 1},
    "clients": {"need_client": 1, "is_safe": 1, "torn_run": 1, "ends": 1, "most_reads": 2, "handed": 2},
    "texts": {"fetch_text": 1, "read_fetch": 1},
    "shelf": {"under": 2},
}
CLASSES = {
    "errors": {"FetchError": (), "BadHouse": (), "BadFetch": (), "BadClient": (), "BadText": (), "BadHistory": (),
               "BadGlue": (), "BadNumber": (), "BadRun": (), "BadPaper": (), "BadQuestion": (), "Parts": (), "Missing": ()},
    "shelf": {"Shelf": ("__getitem__", "__setitem__", "forget", "__contains__", "__len__", "names", "replace", "add",
                        "drop", "make_lean", "undo", "trial", "__eq__", "__iter__")},
    "desk": {"Desk": ("__init__", "fetch", "say")},
}
FETCH = side_by_side(3, [(0, "same", 1), (2, "newer", 0)])
IMPOSSIBLE = side_by_side(3, [(0, "newer", 1), (1, "upto", 2), (2, "upto", 1), (1, "newer", 0)])
CLIENT = (((), 0), ((0,), 0), ((), 2))
# For each function with a FETCH: arguments behind it that are right, and for each of them one that is refused, and how.
NUMBERS = ((0, 1), ((3, BadNumber), (None, BadNumber)))
ASKED = (
    (fetches.need_fetch, (), ()), (fetches.arrows, (), ()), (gaps.is_possible, (), ()), (gaps.judged, (), ()),
    (gaps.check_judged, (("history", (0, 0, 1)),), ((None, BadPaper),)), (gaps.gap, *NUMBERS), (gaps.level, (), ()),
    (gaps.few_versions, (), ()), (gaps.lets, ((0, 0, 1),), (((0, 0), BadHistory),)), (together.together, *NUMBERS),
    (together.classes, (), ()), (together.on_pair, *NUMBERS),
    (together.check_pair, (0, 1, ("ring", (0, 1, 0))), NUMBERS[1] + ((None, BadPaper),)),
    (further.is_sure, ((0, 1),), (((1, 0), BadGlue),)), (further.further, ((0, 1),), ((None, BadGlue),)),
    (further.how_many, ((0, 2),), (((), BadGlue),)),
    (further.with_checks, ((0, 1), ((0, "same", 1),)), (((0, 3), BadGlue), (((0, "same", 2),), BadPaper))),
    (further.check_further, ((0, 1), ("checks", (), "one", ())), (((0, 0), BadGlue), (None, BadPaper))),
    (kept.cover, ((0, 1),), (((True,), BadGlue),)), (kept.most_kept, (), ()), (kept.best, (), ()),
    (kept.missing, (), ()), (kept.is_whole, (), ()), (likeness.alike, (FETCH,), ((None, BadFetch),)),
    (likeness.parted, (IMPOSSIBLE,), (((), BadFetch),)), (likeness.needless, (), ()), (likeness.lean, (), ()),
    (texts.fetch_text, (), ()),
)
# Those that do not raise BadQuestion of an IMPOSSIBLE FETCH.
FREE = (fetches.need_fetch, fetches.arrows, gaps.is_possible, gaps.judged, gaps.check_judged, gaps.lets, likeness.alike,
        likeness.parted, likeness.needless, likeness.lean, texts.fetch_text)
OTHERS = (
    (houses.need_house, ((("a", None),),)), (houses.is_under, ((("a", None), ("b", "a")), "b", "a")),
    (clients.need_client, (CLIENT,)), (clients.is_safe, (CLIENT,)), (clients.torn_run, (CLIENT,)), (clients.ends, (CLIENT,)),
    (clients.most_reads, (CLIENT, 3)), (clients.handed, (CLIENT, (False, True, False, False, True))),
    (texts.read_fetch, (texts.fetch_text(FETCH),)),
)


def kinds_within(thing):
    """All classes of a value and of what it holds."""
    told = {type(thing)}
    for item in thing if type(thing) is tuple else ():
        told |= kinds_within(item)
    return told


class InterfaceTest(unittest.TestCase):

    def test_functions_are_defined_in_their_files(self):
        for name, told in FUNCTIONS.items():
            module = importlib.import_module("wholefetch." + name)
            for function, many in told.items():
                found = getattr(module, function)
                self.assertTrue(inspect.isfunction(found), function)
                self.assertEqual(found.__module__, "wholefetch." + name)
                self.assertEqual(found.__name__, function)
                plain = [one for one in inspect.signature(found).parameters.values() if one.default is one.empty]
                self.assertEqual(len(plain), many, function)

    def test_classes_have_their_methods_themselves(self):
        for name, told in CLASSES.items():
            module = importlib.import_module("wholefetch." + name)
            for kind, methods in told.items():
                found = getattr(module, kind)
                self.assertTrue(inspect.isclass(found), kind)
                self.assertEqual(found.__module__, "wholefetch." + name)
                for method in methods:
                    self.assertIn(method, vars(found), kind)
        self.assertIsInstance(vars(desk.Desk)["fetch"], property)

    def test_all_functions_are_asked_here(self):
        named = {getattr(importlib.import_module("wholefetch." + name), function)
                 for name, told in FUNCTIONS.items() for function in told}
        self.assertEqual({row[0] for row in ASKED + OTHERS} | {shelf.under}, named)


class FetchTest(Asking):

    def test_bad_fetch_ahead_of_all_else(self):
        for ask, right, wrong in ASKED:
            for given in (right, tuple(thing for thing, kind in wrong)):
                self.refuses_fetches(ask, *given)

    def test_errors_of_the_other_arguments_in_their_order(self):
        for ask, right, wrong in ASKED:
            for fetch in (FETCH, IMPOSSIBLE):
                for at, (thing, kind) in enumerate(wrong):
                    behind = [[*right[at + 1:]], [other for other, _ in wrong[at + 1:]], [Thing()] * len(right[at + 1:])]
                    for more in behind:
                        with self.assertRaises(kind) as caught:
                            ask(fetch, *right[:at], thing, *more)
                        self.assertIs(type(caught.exception), kind)

    def test_impossible_fetches_behind_all_other_errors(self):
        for ask, right, wrong in ASKED:
            if ask in FREE:
                try:
                    ask(IMPOSSIBLE, *right)
                except BadPaper as error:
                    self.assertEqual((ask, error.part), (gaps.check_judged, "history"))
            elif ask is further.check_further:
                self.refused(BadPaper, {"part": "checks"}, ask, IMPOSSIBLE, *right)
                self.refused(BadQuestion, {}, ask, IMPOSSIBLE, (0, 1), ("never", (0, 1)))
            else:
                self.refused(BadQuestion, {}, ask, IMPOSSIBLE, *right)

    def test_right_arguments(self):
        for ask, right, wrong in ASKED:
            ask(FETCH, *right)


class CallsTest(Asking):

    def calls(self):
        """All functions but under, with right arguments."""
        return [(ask, (FETCH,) + right) for ask, right, wrong in ASKED] + list(OTHERS)

    def test_asking_twice(self):
        for ask, given in self.calls():
            first = ask(*given)
            self.assertEqual(ask(*copy.deepcopy(given)), first)
            self.assertEqual(kinds_within(first), kinds_within(ask(*given)))
            self.assertLessEqual(kinds_within(first), {tuple, int, str, bool, type(None)})

    def test_what_is_passed_is_not_changed(self):
        for ask, given in self.calls():
            ahead = repr(given)
            ask(*given)
            self.assertEqual(repr(given), ahead)
            for at in range(len(given)):
                for thing in ([1, [2]], {"a": [1]}, ([0, 1],), ("ring", [0, 0]), {0, 1}, bytearray(b"a")):
                    told = copy.deepcopy(thing)
                    with self.assertRaises(FetchError):
                        ask(*given[:at], thing, *given[at + 1:])
                    self.assertEqual(thing, told)

    def test_errors_hold_what_was_passed_and_nothing_is_kept_of_it(self):
        thing = [1]
        with self.assertRaises(BadNumber) as caught:
            gaps.gap(FETCH, thing, thing)
        self.assertIs(caught.exception.given, thing)
        thing.append(2)
        one = shelf.Shelf()
        one["a"] = FETCH
        for deed in (lambda: one.add("a", thing), lambda: one.replace("a", thing), lambda: one.drop("a", thing)):
            self.assertRaises(FetchError, deed)
        thing.clear()
        self.assertEqual((one["a"], one.names()), (FETCH, ("a",)))

    def test_truths_are_true_and_false(self):
        for ask, given in self.calls():
            if ask.__name__.startswith("is_") or ask.__name__ in ("lets", "together", "with_checks", "alike", "ends"):
                self.assertIs(type(ask(*given)), bool)

    def test_numbers_are_no_truths(self):
        for truth in (True, False):
            for kind, ask, given in (
                    (BadNumber, gaps.gap, (FETCH, truth, 0)), (BadNumber, gaps.gap, (FETCH, 0, truth)),
                    (BadHistory, gaps.lets, (FETCH, (0, truth, 1))), (BadGlue, further.is_sure, (FETCH, (truth, 2))),
                    (BadNumber, clients.most_reads, (CLIENT, truth)), (BadClient, clients.ends, ((((), truth),),)),
                    (BadFetch, texts.fetch_text, (FETCH[:1] + (truth,) + FETCH[2:],)),
                    (BadRun, clients.handed, (CLIENT, (int(truth),)))):
                self.assertRaises(kind, ask, *given)

    def test_calls_that_return_none(self):
        one = shelf.Shelf()
        self.assertIsNone(one.__setitem__("a", FETCH))
        self.assertIsNone(one.replace("a", FETCH))
        self.assertIsNone(one.add("a", (0, "same", 1)))
        self.assertIsNone(one.drop("a", 0))
        self.assertIsNone(one.forget("a"))


class OddThingsTest(Asking):

    def test_each_function_refuses_by_its_own_error_alone(self):
        kinds = {houses.need_house: BadHouse, houses.is_under: BadHouse, texts.read_fetch: BadText}
        for ask, given in OTHERS:
            kind = kinds.get(ask, BadClient)
            for thing in odd_things():
                if not (kind is BadText and type(thing) is str):
                    with self.assertRaises(kind) as caught:
                        ask(thing, *given[1:])
                    self.assertIs(type(caught.exception), kind)

    def test_odd_things_in_each_other_place(self):
        for ask, right, wrong in ASKED:
            for at, (_, kind) in enumerate(wrong):
                for thing in odd_things() + [HUGE]:
                    if ask not in (likeness.alike, likeness.parted) or type(thing) is not tuple:
                        self.hold(ask, kind, (FETCH, *right[:at], thing, *right[at + 1:]))

    def hold(self, ask, kind, given):
        """That odd things are refused, but for () as the tuple of no CHECKs."""
        if ask is further.with_checks and type(given[2]) is tuple and len(given[2]) == 0:
            self.assertIs(ask(*given), True)
            return
        with self.assertRaises(kind) as caught:
            ask(*given)
        self.assertIs(type(caught.exception), kind)

    def test_all_refusals_are_fetch_errors(self):
        for name in CLASSES["errors"]:
            kind = getattr(errors, name)
            self.assertEqual(issubclass(kind, FetchError), name not in ("Parts", "Missing"))


if __name__ == "__main__":
    unittest.main()
