"""Tests of wholefetch.desk: lines that are said, held against a plain walk over FETCHes."""

import random
import re
import unittest

from samples import (ALL_HOUSES, CHAIN, HUGE, ONE_PLACE, Asking, gaps_by_words, is_possible_by_words, odd_things,
                     side_by_side, some_checks, some_fetches)
from test_further import parts_of, wanted
from test_kept import cover_by_bytes, shifted
from test_likeness import gaps_or_none, needless_by
from wholefetch.desk import Desk
from wholefetch.errors import BadFetch, BadText
from wholefetch.fetches import need_fetch
from wholefetch.texts import fetch_text

TEXT = """place a
place b of a
size 1000
read a 0 5 0 500
read b 5 9 500 900
read a 5 9 500 800
check 1 newer 0
check 2 upto 0
check 2 upto 0"""
NUMBER = "(?:[0-9]|[1-9][0-9])"
LINES = ("possible", "versions", "classes", "kept", "missing", "needless", "undo", f"gap {NUMBER} {NUMBER}",
         f"together {NUMBER} {NUMBER}", f"further(?: {NUMBER})+", f"check {NUMBER} (?:same|upto|newer) {NUMBER}",
         f"drop {NUMBER}")


def numbers_of(line):
    """The numbers in a line."""
    return tuple(int(word) for word in line.split(" ") if word.isdigit())


def row(things):
    """Things with a space between two, "none" of none."""
    return " ".join(str(thing) for thing in things) or "none"


def is_line(line):
    """Whether it is a line by its form."""
    return type(line) is str and any(re.fullmatch(form, line) for form in LINES)


def answer(fetch, line):
    """The answer to a line that is one by form and changes nothing, by the words of the points and slow tables."""
    word, numbers = line.split(" ")[0], numbers_of(line)
    many = len(fetch[2])
    if word == "needless":
        return row(needless_by(gaps_or_none, fetch))
    if word == "possible":
        return "yes" if is_possible_by_words(fetch) else "no"
    if not is_possible_by_words(fetch) or any(number >= many for number in numbers):
        return "no"
    table = gaps_by_words(fetch)
    if word == "versions":
        return str(1 + max(table[one][two] or 0 for one in range(many) for two in range(many)))
    if word == "gap":
        told = table[numbers[0]][numbers[1]]
        return "none" if told is None else str(told)
    if word == "further":
        if list(numbers) != sorted(set(numbers)):
            return "no"
        told = wanted(fetch, numbers)
        return "never" if told is None else str(told)
    parts = parts_of(table, range(many))
    if word == "together":
        return "yes" if any(set(numbers) <= set(part) for part in parts) else "no"
    if word == "classes":
        return "; ".join(row(part) for part in parts)
    covers = [cover_by_bytes(fetch, part) for part in parts]
    counts = [sum(stop - start for start, stop in pairs) for pairs in covers]
    if word == "kept":
        return str(max(counts))
    best = covers[counts.index(max(counts))]
    edges = [0] + [edge for pair in best for edge in pair] + [fetch[1]]
    return row(f"{start}-{stop}" for start, stop in zip(edges[::2], edges[1::2]) if start < stop)


class Walk:
    """A desk as a list of FETCHes."""

    def __init__(self, fetch):
        self.states = [fetch]

    def say(self, line):
        """The answer to a line."""
        fetch = self.states[-1]
        word = line.split(" ")[0] if is_line(line) else "none"
        if word == "none":
            return "no"
        if word == "undo":
            if len(self.states) == 1:
                return "nothing"
            self.states.pop()
            return "done"
        if word not in ("check", "drop"):
            return answer(fetch, line)
        house, size, reads, checks = fetch
        if word == "drop":
            at = numbers_of(line)[0]
            if at >= len(checks):
                return "no"
            checks = checks[:at] + checks[at + 1:]
        else:
            one, word, other = line.split(" ")[1:]
            if len(checks) == 24 or one == other or max(int(one), int(other)) >= len(reads):
                return "no"
            checks += ((int(one), word, int(other)),)
        self.states.append((house, size, reads, checks))
        return "done"


class DeskTest(Asking):

    def hold(self, text, told):
        """Holds a row of lines and answers on a new desk, twice; the desk."""
        for _ in range(2):
            desk = Desk(text)
            for line, right in told:
                self.assertEqual(desk.say(line), right, line)
        return desk

    def test_a_new_desk(self):
        desk = Desk(TEXT)
        self.assertEqual(desk.fetch, ((("a", None), ("b", "a")), 1000,
                                      (("a", 0, 5, 0, 500), ("b", 5, 9, 500, 900), ("a", 5, 9, 500, 800)),
                                      ((1, "newer", 0), (2, "upto", 0), (2, "upto", 0))))
        self.assertEqual(fetch_text(desk.fetch), TEXT)
        self.assertEqual(desk.fetch, desk.fetch)

    def test_questions(self):
        self.hold(TEXT, [
            ("possible", "yes"), ("versions", "2"), ("gap 0 1", "1"), ("gap 1 0", "none"), ("gap 0 0", "0"),
            ("gap 2 1", "1"), ("together 0 2", "yes"), ("together 0 1", "no"), ("together 1 1", "yes"),
            ("classes", "0 2; 1"), ("further 0 1", "never"), ("further 0 2", "0"), ("further 0 1 2", "never"),
            ("further 1", "0"), ("kept", "800"), ("missing", "800-1000"), ("needless", "1 2"), ("undo", "nothing")])

    def test_changes(self):
        desk = self.hold(TEXT, [
            ("drop 2", "done"), ("needless", "none"), ("drop 0", "done"), ("versions", "1"), ("classes", "0 2; 1"),
            ("gap 0 1", "none"), ("further 0 1", "1"), ("further 0 1 2", "1"), ("check 0 same 1", "done"),
            ("classes", "0 1 2"), ("kept", "900"), ("missing", "900-1000"), ("undo", "done"), ("classes", "0 2; 1"),
            ("undo", "done"), ("versions", "2"), ("undo", "done"), ("undo", "nothing"), ("undo", "nothing")])
        self.assertEqual(fetch_text(desk.fetch), TEXT)

    def test_three_classes(self):
        text = "place a\nsize 9\nread a 0 9 1 2\nread a 0 9 3 5\nread a 0 9 8 9\nread a 0 9 3 5"
        self.hold(text, [
            ("classes", "0; 1; 2; 3"), ("further 0 1 2 3", "3"), ("further 0 1", "1"), ("kept", "2"),
            ("missing", "0-3 5-9"), ("needless", "none"), ("check 0 upto 1", "done"), ("further 0 1", "1"),
            ("check 0 upto 2", "done"), ("further 0 1 2", "2"), ("check 1 same 2", "done"), ("missing", "0-3 5-8"),
            ("check 2 same 1", "done"), ("needless", "0 1 2 3"), ("classes", "0; 1 2; 3"), ("check 2 same 0", "done"),
            ("missing", "0-1 2-3 5-8"), ("kept", "4"), ("needless", "0 1 2 3")])

    def test_a_whole_file(self):
        self.hold("place a\nsize 5\nread a 0 1 0 5", [
            ("possible", "yes"), ("versions", "1"), ("classes", "0"), ("kept", "5"), ("missing", "none"),
            ("needless", "none"), ("gap 0 0", "0"), ("together 0 0", "yes"), ("further 0", "0"), ("gap 0 1", "no"),
            ("together 1 0", "no"), ("further 1", "no"), ("drop 0", "no"), ("check 0 same 0", "no"), ("undo", "nothing")])

    def test_an_impossible_fetch(self):
        text = "place a\nsize 5\nread a 0 1 0 5\nread a 0 1 0 4\ncheck 0 newer 1\ncheck 1 upto 0\ncheck 1 newer 0"
        self.hold(text, [
            ("possible", "no"), ("versions", "no"), ("classes", "no"), ("kept", "no"), ("missing", "no"),
            ("needless", "0 1"), ("gap 0 1", "no"), ("gap 0 0", "no"), ("together 0 0", "no"), ("together 0 1", "no"),
            ("further 0", "no"), ("further 0 1", "no"), ("check 0 same 1", "done"), ("needless", "0 1 2 3"),
            ("undo", "done"), ("drop 2", "done"), ("possible", "yes"), ("versions", "2"), ("further 0 1", "never"),
            ("needless", "1"), ("undo", "done"), ("possible", "no"), ("undo", "nothing")])
        desk = Desk(text.rsplit("\n", 1)[0])
        self.assertEqual([desk.say(line) for line in ("possible", "check 1 newer 0", "possible", "kept", "undo", "kept")],
                         ["yes", "done", "no", "no", "done", "5"])

    def test_the_24th_check_and_the_25th(self):
        desk = Desk("place a\nsize 5\nread a 0 1 0 5\nread a 0 1 0 4" + "\ncheck 0 same 1" * 23)
        self.assertEqual(desk.say("drop 23"), "no")
        self.assertEqual(desk.say("check 1 upto 0"), "done")
        self.assertEqual(desk.say("check 1 upto 0"), "no")
        self.assertEqual(len(desk.fetch[3]), 24)
        self.assertEqual(desk.say("drop 23"), "done")
        self.assertEqual([desk.say("undo") for _ in range(3)], ["done", "done", "nothing"])

    def test_what_is_no_line(self):
        words = ["possible", "versions", "gap 0 1", "together 0 1", "classes", "further 0 1", "kept", "missing",
                 "needless", "check 0 same 1", "drop 0", "undo"]
        things = ["", " ", "\n", "nothing", "Possible", "POSSIBLE", "fetch", "say", "possible 0", "versions 1", "classes 0",
                  "kept 0", "missing 0", "needless 0", "undo 1", "undo undo", "gap", "gap 0", "gap 0 1 2", "together",
                  "together 0", "together 0 1 2", "further", "check", "check 0", "check 0 same", "check 0 same 1 2",
                  "check same 0 1", "check 0 1 same", "check 0 older 1", "check 0 Same 1", "check 0  1", "drop", "drop 0 1",
                  "drop -1", "drop +0", "drop 00", "drop 01", "drop 000", "drop a", "drop 0.", "gap 00 1", "gap 0 01",
                  "gap 0 -1", "gap -1 0", "gap a 0", "gap 0 1a", "gap 0 100", "gap 100 0", "further 0 01", "further 0 001",
                  "further 00", "further 0 1 ", "further a", "together 0 1,", "gap 0,1", "gap\n0 1", "gap 0\n1",
                  "possible\n", "\npossible", "x" * 20000, "gap 0 " + "1" * 5000, "drop \n",
                  "check 0 same 01", "check 00 same 1", "check  same 1", "check 0 same ", "possible\nversions"]
        things += [" " + word for word in words] + [word + " " for word in words] + [word + "\n" for word in words]
        things += [word.replace(" ", "  ", 1) for word in words if " " in word]
        things += [word[:-1] for word in words if " " not in word] + [word + "s" for word in words]
        desk = Desk(TEXT)
        for thing in things + odd_things() + [0, 1, ("undo",), ["undo"], b"undo"]:
            self.assertEqual(desk.say(thing), "no")
            self.assertFalse(is_line(thing))
        self.assertEqual(fetch_text(desk.fetch), TEXT)
        self.assertEqual(desk.say("undo"), "nothing")

    def test_lines_that_ask_what_raises_an_error(self):
        desk = Desk(TEXT)
        for line in ("gap 0 3", "gap 3 0", "gap 99 0", "together 0 3", "together 12 0", "further 3", "further 0 3",
                     "further 1 0", "further 0 0", "further 0 1 1", "further" + "".join(f" {at}" for at in range(13)), "further" + " 0" * 5000,
                     "check 0 same 0", "check 0 same 3", "check 3 upto 0", "check 99 newer 98", "drop 3", "drop 99"):
            self.assertTrue(is_line(line))
            self.assertEqual(desk.say(line), "no", line)
        self.assertEqual(fetch_text(desk.fetch), TEXT)
        self.assertEqual(desk.say("undo"), "nothing")

    def test_numbers_of_two_figures(self):
        desk = Desk(fetch_text(side_by_side(12, [(10, "newer", 11)] * 11)))
        for line, right in (("gap 11 10", "1"), ("gap 10 11", "none"), ("together 9 10", "no"), ("further 9 10", "1"),
                            ("further 0 1 2 3 4 5 6 7 8 9 10", "10"), ("further 10 11", "never"), ("drop 10", "done"),
                            ("drop 10", "no"), ("check 10 upto 9", "done"), ("check 9 same 10", "done"),
                            ("needless", "0 1 2 3 4 5 6 7 8 9 10"), ("together 9 10", "yes"),
                            ("classes", "0; 1; 2; 3; 4; 5; 6; 7; 8; 9 10; 11"), ("gap 11 9", "1"), ("gap 11 12", "no")):
            self.assertEqual(desk.say(line), right, line)

    def test_changes_that_leave_all_alike_can_be_undone(self):
        self.hold(TEXT, [("drop 1", "done"), ("drop 1", "done"), ("check 2 upto 0", "done"), ("classes", "0 2; 1"),
                         ("undo", "done"), ("classes", "0; 1; 2"), ("undo", "done"), ("undo", "done"), ("undo", "nothing")])

    def test_desks_are_apart(self):
        one, other = Desk(TEXT), Desk(TEXT)
        self.assertEqual(one.say("drop 0"), "done")
        self.assertEqual(fetch_text(other.fetch), TEXT)
        self.assertEqual(other.say("undo"), "nothing")


class WalkTest(Asking):

    def some_line(self, chance, fetch):
        """A line that is one more often than not."""
        many = len(fetch[2]) + 1
        word = chance.choice(("possible", "versions", "classes", "kept", "missing", "needless", "undo", "gap", "gap",
                              "together", "further", "further", "further", "check", "check", "check", "drop", "drop", "odd"))
        if word == "odd":
            return chance.choice(("", "check", "drop 01", "gap 0", " undo", "undo ", "kept 1", "check 0 older 1", "further"))
        if word == "check":
            one, word, other = (some_checks(chance, many, 1))[0]
            return f"check {one} {word} {other}"
        if word == "drop":
            return f"drop {chance.randrange(len(fetch[3]) + 2)}"
        if word in ("gap", "together"):
            return f"{word} {chance.randrange(many)} {chance.randrange(many)}"
        if word == "further":
            glue = chance.sample(range(many - chance.randrange(2)), chance.randint(1, many - 1))
            return "further" + "".join(f" {at}" for at in (glue if chance.randrange(6) == 0 else sorted(glue)))
        return word

    def test_rows_of_lines(self):
        chance = random.Random(71)
        said = {}
        for fetch in some_fetches(72, 60, 1, 7, 9, 8, ALL_HOUSES) + some_fetches(73, 20, 2, 12, 12, 24, ALL_HOUSES):
            told = shifted(fetch, chance, chance.choice((2, 9, 40)))
            desk, walk = Desk(fetch_text(told)), Walk(told)
            for _ in range(40):
                line = self.some_line(chance, walk.states[-1])
                right = walk.say(line)
                self.assertEqual(desk.say(line), right, line)
                self.assertEqual(desk.fetch, walk.states[-1])
                word = line.split(" ")[0]
                said.setdefault(word, set()).add(right)
            for state in walk.states[-2::-1]:
                self.assertEqual(desk.say("undo"), "done")
                self.assertEqual(desk.fetch, state)
            self.assertEqual(desk.say("undo"), "nothing")
        self.assertEqual(said["check"], {"no", "done"})
        self.assertEqual(said["drop"], {"no", "done"})
        self.assertGreaterEqual(said["undo"], {"nothing", "done"})
        self.assertEqual(said["possible"], {"yes", "no"})
        self.assertEqual(said["together"], {"yes", "no"})
        self.assertGreaterEqual(said["further"], {"0", "1", "2", "3", "never", "no"})
        self.assertGreaterEqual(said["gap"], {"0", "1", "none", "no"})
        self.assertGreaterEqual(said["versions"], {"1", "2", "no"})
        self.assertGreaterEqual(said["missing"], {"none", "no"})

    def test_all_short_rows_of_changes(self):
        lines = ("check 0 same 1", "check 1 newer 0", "drop 0", "drop 1", "undo", "check 0 same 0")
        start = side_by_side(2, [(0, "upto", 1)])
        rows = [()]
        for _ in range(4):
            rows = [ahead + (line,) for ahead in rows for line in lines]
        for told in rows:
            desk, walk = Desk(fetch_text(start)), Walk(start)
            for line in told:
                self.assertEqual(desk.say(line), walk.say(line))
            self.assertEqual(desk.fetch, walk.states[-1])


class RefusalsTest(Asking):

    def test_what_is_no_written_form(self):
        for thing in odd_things() + [HUGE, (ONE_PLACE,), side_by_side(2), TEXT.encode()]:
            if type(thing) is not str:
                self.refused(BadText, {"line": -1, "place": -1}, Desk, thing)
        for text, line, place in (("", 0, 0), ("place a", 1, 0), (TEXT + "\n", 9, 0), (TEXT + " ", 8, 14),
                                  ("place a\nsize 01", 1, 6), (TEXT + "0", 8, 14), (TEXT.replace("upto", "uptp"), 7, 11)):
            self.refused(BadText, {"line": line, "place": place}, Desk, text)

    def test_what_is_no_fetch(self):
        self.refused(BadFetch, {"part": "checks", "number": 3}, Desk, TEXT + "\ncheck 0 same 3")
        self.refused(BadFetch, {"part": "house", "number": 0}, Desk, TEXT.replace("place a\n", "place a of a\n"))
        self.refused(BadFetch, {"part": "size", "number": None}, Desk, TEXT.replace("1000", "0"))
        self.refused(BadFetch, {"part": "reads", "number": 1}, Desk, TEXT.replace("1000", "800"))

    def test_the_walk_takes_fetches_alone(self):
        walk = Walk(side_by_side(3))
        for line in ("check 0 same 1", "check 1 newer 2", "drop 0", "check 2 upto 0"):
            self.assertEqual(walk.say(line), "done")
            self.assertEqual(need_fetch(walk.states[-1]), walk.states[-1])
        self.assertEqual(Desk(fetch_text((CHAIN,) + walk.states[-1][1:])).fetch[0], CHAIN)


if __name__ == "__main__":
    unittest.main()
