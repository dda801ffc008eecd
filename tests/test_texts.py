"""Tests of wholefetch.texts: point [14]."""

import random
import unittest

from samples import (ALL_HOUSES, CHAIN, FULL, HUGE, ONE_PLACE, TREE, Asking, fetch_of, odd_things, side_by_side,
                     some_fetches)
from wholefetch.errors import BadFetch, BadText
from wholefetch.fetches import need_fetch
from wholefetch.texts import fetch_text, read_fetch

TEXT = """place a
place b of a
size 1000
read a 0 5 0 500
read b 5 9999 500 1000
check 0 same 1
check 1 upto 0
check 10 newer 9"""
GOOD = TEXT[:-len("check 10 newer 9")] + "check 1 newer 0"
FETCH = ((("a", None), ("b", "a")), 1000, (("a", 0, 5, 0, 500), ("b", 5, 9999, 500, 1000)),
         ((0, "same", 1), (1, "upto", 0), (1, "newer", 0)))
SHORT = "place a\nsize 1\nread a 0 1 0 1"

LETTERS = "abcdefghijklmnopqrstuvwxyz"
FORMS = {
    "place": (["place ", "NAME"], ["place ", "NAME", " of ", "NAME"]),
    "size": (["size ", "NUMBER"],),
    "read": (["read ", "NAME", " ", "NUMBER", " ", "NUMBER", " ", "NUMBER", " ", "NUMBER"],),
    "check": tuple(["check ", "NUMBER", f" {word} ", "NUMBER"] for word in ("same", "upto", "newer")),
}


def spelled(form):
    """The form, literal parts being spelled sign by sign."""
    return [sign for part in form for sign in ([part] if part in ("NAME", "NUMBER") else part)]


def allowed(kind, ahead):
    """Whether a line of a kind can stand behind lines of these kinds."""
    if kind == "place":
        return "size" not in ahead
    if kind == "size":
        return "place" in ahead and "size" not in ahead
    if kind == "read":
        return "size" in ahead and "check" not in ahead
    return "read" in ahead


def after(places, sign):
    """Where one is in forms behind one more sign: (FORM, PART, how much of this PART there is).

    A part of which there is enough may end at each sign, so one can be in several places at once.
    """
    told = set()
    for form, part, had in places:
        if part < len(form) and form[part] not in ("NAME", "NUMBER"):
            if form[part] == sign:
                told.add((form, part + 1, ""))
        elif part < len(form):
            if fits(form[part], had + sign):
                told.add((form, part, had + sign))
            if had and part + 1 < len(form) and form[part + 1] == sign:
                told.add((form, part + 2, ""))
    return told


def fits(part, text):
    """Whether it is a whole PLACE or number by form."""
    if part == "NAME":
        return 1 <= len(text) <= 8 and not set(text) - set(LETTERS)
    return text == "0" or (1 <= len(text) <= 10 and not set(text) - set("0123456789") and text[0] != "0")


def slow_line(line, ahead):
    """The kind of a line, or the number of the character from which it cannot stand behind lines of these kinds."""
    places = {(tuple(spelled(form)), 0, "") for kind in FORMS if allowed(kind, ahead) for form in FORMS[kind]}
    for at, sign in enumerate(line):
        places = after(places, sign)
        if not places:
            return at
    if [1 for form, part, had in places if part == len(form) or (part == len(form) - 1 and had)]:
        return line.split(" ")[0]
    return len(line)


def slow_read(string):
    """What comes of a string by the words of [14]: ("text", LINE, PLACE), or ("fetch", what it tells)."""
    lines = string.split("\n")
    ahead = []
    for at, line in enumerate(lines):
        told = slow_line(line, ahead)
        if isinstance(told, int):
            return ("text", at, told)
        ahead.append(told)
    if "read" not in ahead:
        return ("text", len(lines), 0)
    rows = [[int(word) if word.isdigit() else word for word in line.split(" ")] for line in lines]
    house = tuple((row[1], row[3] if row[2:] else None) for row in rows if row[0] == "place")
    size = [row[1] for row in rows if row[0] == "size"][0]
    reads = tuple(tuple(row[1:]) for row in rows if row[0] == "read")
    checks = tuple(tuple(row[1:]) for row in rows if row[0] == "check")
    return ("fetch", (house, size, reads, checks))


class Reading(Asking):

    def hold(self, string):
        """Holds what is told of a string against the slow reader; what that says."""
        right = slow_read(string)
        if right[0] == "text":
            self.refused(BadText, {"line": right[1], "place": right[2]}, read_fetch, string)
            return "text"
        try:
            need_fetch(right[1])
        except BadFetch as error:
            self.refused(BadFetch, {"part": error.part, "number": error.number}, read_fetch, string)
            return "fetch"
        self.assertEqual(read_fetch(string), right[1])
        self.assertEqual(fetch_text(right[1]), string)
        return "good"

    def bad(self, string, line, place):
        """That a string is refused with this line and this place."""
        self.refused(BadText, {"line": line, "place": place}, read_fetch, string)
        self.assertEqual(slow_read(string), ("text", line, place), string)

    def bad_fetch(self, string, part, number):
        """That a string has a right form, and is of no FETCH."""
        self.refused(BadFetch, {"part": part, "number": number}, read_fetch, string)
        self.assertEqual(slow_read(string)[0], "fetch")


class WrittenTest(Reading):

    def test_the_written_form(self):
        self.assertEqual(fetch_text(FETCH), GOOD)
        self.assertEqual(read_fetch(GOOD), FETCH)
        self.assertEqual(read_fetch(SHORT), fetch_of(ONE_PLACE, [("a", 0, 1)])[:1] + (1, (("a", 0, 1, 0, 1),), ()))
        self.assertEqual(fetch_text(read_fetch(SHORT)), SHORT)

    def test_largest_numbers_and_longest_places(self):
        fetch = (FULL, 1000000000, (("abcdefgh", 9998, 9999, 999999999, 1000000000),) * 12, ((10, "same", 11),) * 24)
        text = fetch_text(fetch)
        self.assertEqual(len(text.split("\n")), 4 + 1 + 12 + 24)
        self.assertTrue(text.startswith("place abcdefgh\nplace b of abcdefgh\nplace z of b\nplace zz of z\nsize 1000000000\n"))
        self.assertIn("\nread abcdefgh 9998 9999 999999999 1000000000\ncheck 10 same 11\n", text)
        self.assertEqual(read_fetch(text), fetch)
        self.assertEqual(self.hold(text), "good")

    def test_impossible_fetches(self):
        fetch = side_by_side(2, [(0, "newer", 1), (1, "newer", 0)])
        text = "place a\nsize 100\nread a 0 9 0 1\nread a 0 9 1 2\ncheck 0 newer 1\ncheck 1 newer 0"
        self.assertEqual(fetch_text(fetch), text)
        self.assertEqual(read_fetch(text), fetch)

    def test_there_and_back(self):
        for fetch in some_fetches(61, 200, 1, 12, 40, 24, ALL_HOUSES) + [fetch_of(CHAIN, [("d", 0, 9)]),
                                                                       fetch_of(TREE, [("lone", 3, 4)])]:
            text = fetch_text(fetch)
            self.assertIs(type(text), str)
            self.assertEqual(fetch_text(fetch), text)
            self.assertEqual(read_fetch(text), fetch)
            self.assertEqual(read_fetch(text), read_fetch(text))
            self.assertEqual(self.hold(text), "good")

    def test_what_is_read_is_of_the_listed_kinds(self):
        house, size, reads, checks = read_fetch(GOOD)
        for row in (house, reads, checks, *house, *reads, *checks):
            self.assertIs(type(row), tuple)
        for number in (size, *reads[1][1:], checks[0][0], checks[0][2]):
            self.assertIs(type(number), int)


class PlaceTest(Reading):

    def test_no_strings(self):
        for at, thing in enumerate(odd_things()):
            with self.subTest(at=at):
                if type(thing) is not str:
                    self.refused(BadText, {"line": -1, "place": -1}, read_fetch, thing)
        self.refused(BadText, {"line": -1, "place": -1}, read_fetch, GOOD.encode())
        self.refused(BadText, {"line": -1, "place": -1}, read_fetch, (GOOD,))
        self.refused(BadText, {"line": -1, "place": -1}, read_fetch, GOOD.split("\n"))

    def test_strings_that_end_too_early(self):
        for string, line, place in (
                ("", 0, 0), ("\n", 0, 0), ("p", 0, 1), ("place", 0, 5), ("place ", 0, 6), ("place a", 1, 0),
                ("place a\n", 1, 0), ("place a ", 0, 8), ("place a o", 0, 9), ("place a of", 0, 10), ("place a of ", 0, 11),
                ("place a of b", 1, 0), ("place a\nplace b", 2, 0), ("place a\nsize 5", 2, 0), ("place a\nsize 5\n", 2, 0),
                ("place a\nsize", 1, 4), ("place a\nsize ", 1, 5), ("place a\ns", 1, 1), ("place a\np", 1, 1),
                (SHORT + "\n", 3, 0), (SHORT + "\n\n", 3, 0), (SHORT + "\nc", 3, 1), (SHORT + "\nr", 3, 1),
                (SHORT[:-1], 2, 13), (SHORT[:-2], 2, 12), (SHORT + "\ncheck 0", 3, 7), (SHORT + "\ncheck 0 ", 3, 8),
                (SHORT + "\ncheck 0 s", 3, 9), (SHORT + "\ncheck 0 same", 3, 12), (SHORT + "\ncheck 0 same ", 3, 13),
                (GOOD + "\n", 8, 0)):
            self.bad(string, line, place)

    def test_lines_in_another_order(self):
        for string, line, place in (
                ("size 1\nplace a\nread a 0 1 0 1", 0, 0), ("read a 0 1 0 1", 0, 0), ("check 0 same 1", 0, 0),
                ("place a\nread a 0 1 0 1\nsize 1", 1, 0), ("place a\ncheck 0 same 1", 1, 0),
                ("place a\nsize 1\nplace b", 2, 0), ("place a\nsize 1\nsize 1", 2, 0), ("place a\nsize 1\ncheck 0 same 1", 2, 0),
                (SHORT + "\nplace b", 3, 0), (SHORT + "\nsize 1", 3, 0), (GOOD + "\nread a 0 1 0 1", 8, 0),
                (GOOD + "\nplace c", 8, 0), (GOOD + "\nsize 7", 8, 0), ("\n" + SHORT, 0, 0), ("place a\n\nsize 1", 1, 0),
                ("place a\nsize 1\n\nread a 0 1 0 1", 2, 0)):
            self.bad(string, line, place)

    def test_the_first_line_and_in_it_the_first_character(self):
        self.bad("place A\nsize 01", 0, 6)
        self.bad("place a\nsize 01\nread a x", 1, 6)
        self.bad("place a\nsize 1\nread a x y\nxx", 2, 7)
        self.bad(" place a", 0, 0)
        self.bad("Place a", 0, 0)
        self.bad("place  a", 0, 6)
        self.bad("place a b", 0, 8)
        self.bad("place a  of b", 0, 8)
        self.bad("place a ofb", 0, 10)
        self.bad("place a of b ", 0, 12)
        self.bad("place a of b of c", 0, 12)
        self.bad("place a1", 0, 7)
        self.bad("place 1", 0, 6)
        self.bad("placea", 0, 5)
        self.bad("place a\nsize 1 ", 1, 6)
        self.bad("place a\nsize -1", 1, 5)
        self.bad("place a\nsize +1", 1, 5)
        self.bad("place a\nsize 1.0", 1, 6)
        self.bad("place a\nsize a", 1, 5)
        self.bad("place a\nplaces", 1, 5)
        self.bad(SHORT + " ", 2, 14)
        self.bad(SHORT + " 1", 2, 14)
        self.bad(SHORT + "\nread a 0 1 0", 3, 12)
        self.bad(SHORT + "\nread 0 1 0 1", 3, 5)
        self.bad(SHORT + "\ncheck a same 1", 3, 6)
        self.bad(SHORT + "\ncheck 0 sane 1", 3, 10)
        self.bad(SHORT + "\ncheck 0 samely 1", 3, 12)
        self.bad(SHORT + "\ncheck 0 older 1", 3, 8)
        self.bad(SHORT + "\ncheck 0 nupto 1", 3, 9)
        self.bad(SHORT + "\ncheck 0 upto 1 ", 3, 14)
        self.bad(SHORT + "\ncheck 0 newer b", 3, 14)
        self.bad(SHORT + "\ncheck 0 Same 1", 3, 8)

    def test_numbers(self):
        self.bad("place a\nsize 00", 1, 6)
        self.bad("place a\nsize 07", 1, 6)
        self.bad("place a\nsize 12345678901", 1, 15)
        self.bad(f"place a\nsize {'9' * 20}", 1, 15)
        self.bad(f"place a\nsize {'9' * 5000}", 1, 15)
        self.bad(SHORT.replace(" 0 1 ", " 00 1 ", 1), 2, 8)
        self.bad(SHORT + "\ncheck 00 same 1", 3, 7)
        self.bad(SHORT + "\ncheck 0 same 01", 3, 14)
        self.bad(SHORT + "\ncheck 12345678901 same 1", 3, 16)
        self.bad_fetch("place a\nsize 9999999999\nread a 0 1 0 1", "size", None)
        self.bad_fetch("place a\nsize 1000000001\nread a 0 1 0 1", "size", None)
        self.bad_fetch("place a\nsize 0\nread a 0 1 0 1", "size", None)
        self.bad_fetch("place a\nsize 1\nread a 0 9999999999 0 1", "reads", 0)
        self.bad_fetch(SHORT + "\ncheck 1234567890 same 1", "checks", 0)

    def test_places(self):
        self.bad("place abcdefghi\nsize 1", 0, 14)
        self.bad("place a of abcdefghi\nsize 1", 0, 19)
        self.bad("place a\nsize 1\nread abcdefghi 0 1 0 1", 2, 13)
        self.assertEqual(self.hold("place abcdefgh\nsize 1\nread abcdefgh 0 1 0 1"), "good")
        self.bad_fetch("place a of abcdefgh\nsize 1\nread a 0 1 0 1", "house", 0)
        self.bad_fetch("place a\nsize 1\nread abcdefgh 0 1 0 1", "reads", 0)

    def test_forms_that_are_right_of_what_is_no_fetch(self):
        tail = "\nsize 1\nread a 0 1 0 1"
        self.bad_fetch("place a of a" + tail, "house", 0)
        self.bad_fetch("place b\nplace a" + tail, "house", 1)
        self.bad_fetch("place a\nplace a" + tail, "house", 1)
        self.bad_fetch("place a of b\nplace b of a" + tail, "house", 0)
        self.bad_fetch("place a\nplace b\nplace c\nplace d\nplace e" + tail, "house", None)
        self.bad_fetch("place of of of" + tail, "house", 0)
        self.bad_fetch("place a\nsize 1" + "\nread a 0 1 0 1" * 13, "reads", None)
        self.bad_fetch(SHORT + "\nread a 1 1 0 1", "reads", 1)
        self.bad_fetch(SHORT + "\nread a 0 1 0 2", "reads", 1)
        self.bad_fetch(SHORT + "\nread b 0 1 0 1", "reads", 1)
        self.bad_fetch(SHORT + "\nread a 0 10000 0 1", "reads", 1)
        self.bad_fetch(SHORT + "\ncheck 0 same 0", "checks", 0)
        self.bad_fetch(SHORT + "\ncheck 0 same 1", "checks", 0)
        self.bad_fetch(GOOD + "\ncheck 0 same 2", "checks", 3)
        self.bad_fetch(GOOD + "\ncheck 0 same 1" * 22, "checks", None)
        self.assertEqual(self.hold(GOOD + "\ncheck 0 same 1" * 21), "good")
        self.bad_fetch(TEXT, "checks", 2)

    def test_a_bad_form_ahead_of_a_bad_fetch(self):
        self.bad("place a of a\nsize 0\nread z 9 0 9 0\ncheck 99 same 99\ncheck", 4, 5)
        self.bad("place b\nplace a\nsize 0", 3, 0)
        self.bad(SHORT + "\ncheck 0 same 1" * 30 + "\n", 33, 0)

    def test_long_strings(self):
        self.bad("a" * 20000, 0, 0)
        self.bad("place " + "a" * 19994, 0, 14)
        self.bad("place a\n" * 2500, 2500, 0)
        self.bad(" " * 20000, 0, 0)
        self.bad("\n" * 20000, 0, 0)
        self.bad_fetch("place a\n" * 2000 + "size 1\nread a 0 1 0 1", "house", None)


class ChangedTest(Reading):
    SIGNS = " \n09aosz~A1cr"

    def changed(self, string):
        """All that comes of a string with one character put in, left out, exchanged, or with an end cut off."""
        for at in range(len(string) + 1):
            head, tail = string[:at], string[at:]
            yield head
            yield head + tail[1:]
            for sign in self.SIGNS:
                yield head + sign + tail
                yield head + sign + tail[1:]
            yield head + tail[1:2] + tail[:1] + tail[2:]

    def test_one_character(self):
        said = {"text": 0, "fetch": 0, "good": 0}
        for string in (GOOD, SHORT, "place of\nplace ofo of of\nsize 1234567890\nread of 0 1234567890 0 1\ncheck 0 upto 10",
                       "place abcdefgh\nplace abcdefgi of abcdefgh\nsize 10\nread abcdefgi 0 10 0 10\nread abcdefgh 1 2 3 4"):
            for other in self.changed(string):
                said[self.hold(other)] += 1
        self.assertGreater(min(said.values()), 100)

    def test_lines(self):
        lines = GOOD.split("\n")
        for at in range(len(lines) + 1):
            self.hold("\n".join(lines[:at] + lines[at + 1:]))
            for to in range(len(lines)):
                self.hold("\n".join(lines[:at] + [lines[to]] + lines[at:]))
                self.hold("\n".join(lines[:at] + [lines[to]] + lines[at + 1:]))

    def test_rows_of_pieces(self):
        chance = random.Random(62)
        pieces = ["place a", "place", " of", " b", "size 9", "size ", "read a 0 1 0 1", "read", " a", " 0", " 1", "check ",
                  "check 0 same 1", "same", " ", "\n", "\n", "\n", "0", "abcdefgh", "1234567890"]
        said = set()
        for _ in range(3000):
            said.add(self.hold("".join(chance.choice(pieces) for _ in range(chance.randint(1, 9)))))
            head = chance.choice(("place a\n", "place a\nsize 9\n", SHORT + "\n", GOOD + "\n"))
            said.add(self.hold(head + "".join(chance.choice(pieces) for _ in range(chance.randint(1, 9)))))
        self.assertEqual(said, {"text", "fetch", "good"})


class RefusalsTest(Asking):

    def test_fetch_text_of_what_is_no_fetch(self):
        self.refuses_fetches(fetch_text)
        self.refused(BadFetch, {"part": "form", "number": None}, fetch_text, GOOD)
        house, size, reads, checks = FETCH
        self.refused(BadFetch, {"part": "size", "number": None}, fetch_text, (house, HUGE, reads, checks))
        self.refused(BadFetch, {"part": "reads", "number": 2}, fetch_text, (house, size, reads + (("a", 0, 1, True, 2),), checks))


if __name__ == "__main__":
    unittest.main()
