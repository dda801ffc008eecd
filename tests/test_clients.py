"""Tests of wholefetch.clients: points [12] and [13]."""

import itertools
import random
import unittest

from samples import HUGE, Asking, Thing, nested, odd_things
from wholefetch.clients import ends, handed, is_safe, most_reads, need_client, torn_run
from wholefetch.errors import BadClient, BadNumber, BadRun

LONE = (((), 0),)
PAIR = (((), 0), ((0,), 0))
# The second piece is read again and again, and never is like the first one behind a change.
STUCK = (((), 0), ((0,), 1))
BLIND = (((), 0), ((), 1), ((), 2))
# Safe by its last STEP alone.
LATE = tuple(((), at) for at in range(7)) + (((0,), 0),)
ASKS = (need_client, is_safe, torn_run, ends, lambda client: most_reads(client, 0), lambda client: handed(client, ()))


def play(client, run):
    """What comes of a RUN by the words of [12]: what is handed over, None if it ends ahead, or "too long"."""
    kept = {}
    step = version = 0
    for put in run:
        if step == len(client):
            return "too long"
        version += put
        against, back = client[step]
        if [number for number in against if kept[number] != version]:
            kept = {number: piece for number, piece in kept.items() if number < back}
            step = back
        else:
            kept[step] = version
            step += 1
    return tuple(kept[at] for at in range(len(client))) if step == len(client) else None


def all_clients(many):
    """All CLIENTs of so many STEPs."""
    steps = []
    for at in range(many):
        rows = [row for few in range(at + 1) for row in itertools.combinations(range(at), few)]
        steps.append([(row, back) for row in rows for back in range(at + 1)])
    return list(itertools.product(*steps))


def all_runs(longest):
    """All RUNs of up to so many pieces, the shorter ones first."""
    yield ()
    for many in range(longest):
        for more in itertools.product((False, True), repeat=many):
            yield (False,) + more


def some_clients(seed, many, fewest, most):
    """So many CLIENTs, the same ones each time, with from fewest to most STEPs."""
    chance = random.Random(seed)
    told = []
    for _ in range(many):
        steps = []
        seldom = chance.choice((1, 2, 5))
        for at in range(chance.randint(fewest, most)):
            row = tuple(number for number in range(at) if chance.randrange(seldom) == 0)
            steps.append((row, chance.choice((0, at, chance.randint(0, at)))))
        told.append(tuple(steps))
    return told


def ends_by_words(client):
    """Whether pieces are handed over some day behind each last change; from then on 9 * 9 states can come at most."""
    for ahead in range(1, len(client)):
        run = (False,) * ahead + (True,) + (False,) * 100
        if play(client, run) is None:
            return False
    return True


def most_by_words(client, changes):
    """The most pieces of a RUN with so many changes at most, each piece read with a change ahead of it or without."""
    known = {}

    def go(kept, left, began):
        """The most pieces that come yet, kept being the versions of the kept pieces, the newest of all 0."""
        if len(kept) == len(client):
            return 0
        if (kept, left) not in known:
            known[kept, left] = None
            best = 0
            for put in (0, 1) if left > 0 and began else (0,):
                after = tuple(version - put for version in kept)
                against, back = client[len(kept)]
                after = after[:back] if any(after[at] for at in against) else after + (0,)
                best = max(best, 1 + go(after, left - put, True))
            known[kept, left] = best
        if known[kept, left] is None:
            raise OverflowError("round and round")
        return known[kept, left]

    try:
        return go((), changes, False)
    except OverflowError:
        return None


class Playing(Asking):

    def refuses_run(self, client, run):
        """That a RUN is refused, with the whole of it."""
        self.refused(BadRun, {"given": run}, handed, client, run)


class ClientTest(Playing):

    def test_clients(self):
        for client in (LONE, PAIR, STUCK, BLIND, LATE, (((), 0), ((), 0), ((0, 1), 2), ((2,), 1)),
                       tuple((tuple(range(at)), at) for at in range(8))):
            self.assertIs(need_client(client), client)

    def test_named_ones(self):
        for client, safe, torn, stops, reads in (
                (LONE, True, None, True, [1, 1, 1]),
                (PAIR, True, None, True, [2, 4, 6]),
                (STUCK, True, None, False, [2, None, None]),
                (BLIND, False, (False, True, False), True, [3, 3, 3]),
                (LATE, True, None, True, [8, 16, 24]),
                (BLIND[:2] + (((1,), 1),), False, (False, True, False), True, [3, 5, 7]),
                (BLIND[:2] + (((1,), 2),), False, (False, True, False), False, [3, None, None]),
                (BLIND[:2] + (((0,), 1),), True, None, False, [3, None, None]),
                (BLIND[:2] + (((0,), 0),), True, None, True, [3, 6, 9]),
                (PAIR + (((), 2),), False, (False, False, True), True, [3, 5, 7]),
                (PAIR + (((1,), 0),), True, None, True, [3, 6, 9]),
                (PAIR + (((1,), 1),), True, None, True, [3, 7, 11])):
            self.assertIs(is_safe(client), safe)
            self.assertEqual(torn_run(client), torn)
            self.assertIs(ends(client), stops)
            self.assertEqual([most_reads(client, changes) for changes in range(3)], reads)
            self.assertEqual([most_reads(client, changes) for changes in range(3)], reads)

    def test_a_client_that_is_safe_by_its_last_step_alone(self):
        for many in range(2, 9):
            ahead = tuple(((), at) for at in range(many - 1))
            for back in range(many):
                self.assertIs(is_safe(ahead + (((0,), back),)), True)
                self.assertIsNone(torn_run(ahead + (((0,), back),)))
                self.assertIs(ends(ahead + (((0,), back),)), back == 0)
            for first in range(1, many - 1):
                client = ahead + (((first,), 0),)
                self.assertIs(is_safe(client), False)
                self.hold_torn(client)

    def hold_torn(self, client):
        """That a RUN with one piece for each STEP, and one change, is told, and tears the file."""
        run = torn_run(client)
        self.assertEqual(torn_run(client), run)
        self.assertEqual([type(thing) for thing in run], [bool] * len(client))
        self.assertEqual((run[0], run.count(True)), (False, 1))
        self.assertGreater(len(set(play(client, run))), 1)
        self.assertEqual(handed(client, run), play(client, run))

    def hold(self, client, longest):
        """Holds what is told of a CLIENT against all RUNs of up to so many pieces."""
        torn = []
        for run in all_runs(longest):
            right = play(client, run)
            if right == "too long":
                self.refuses_run(client, run)
            else:
                self.assertEqual(handed(client, run), right)
                torn += [run] if right is not None and len(set(right)) > 1 else []
        self.assertIs(is_safe(client), not torn)
        if torn:
            self.assertEqual(len(torn_run(client)), len(torn[0]))
            self.hold_torn(client)
        else:
            self.assertIsNone(torn_run(client))
        self.hold_reads(client, 3)

    def hold_reads(self, client, most):
        """Holds whether a CLIENT ENDS, and how many pieces are read with up to so many changes."""
        right = ends_by_words(client)
        self.assertIs(ends(client), right)
        self.assertEqual(most_reads(client, 0), len(client))
        for changes in range(most + 1):
            told = most_reads(client, changes)
            self.assertEqual(told, most_by_words(client, changes))
            self.assertIs(told is None, changes > 0 and not right)

    def test_all_clients_of_up_to_three_steps_in_all_runs(self):
        held = [client for many in (1, 2, 3) for client in all_clients(many)]
        self.assertEqual(len(held), 1 + 4 + 48)
        for client in held:
            self.hold(client, 8)
        self.assertEqual({(is_safe(client), ends(client)) for client in held}, set(itertools.product((True, False), repeat=2)))

    def test_clients_of_four_and_five_steps_in_all_runs(self):
        for client in all_clients(4)[::23] + some_clients(1, 20, 5, 5):
            self.hold(client, 8)

    def test_all_clients_of_four_steps(self):
        for client in all_clients(4):
            self.hold_reads(client, 1)

    def test_long_clients(self):
        said = [0, 0]
        for client in some_clients(2, 400, 5, 8):
            many = len(client)
            runs = [(False,) * at + (True,) + (False,) * (many - at - 1) for at in range(1, many)]
            told = [play(client, run) for run in runs]
            right = not any(versions and len(set(versions)) > 1 for versions in told)
            self.assertIs(is_safe(client), right)
            if right:
                self.assertIsNone(torn_run(client))
            else:
                self.hold_torn(client)
            said[right] += 1
            self.hold_reads(client, 2)
        self.assertGreater(min(said), 60)

    def test_safe_clients_hand_over_one_version_whatever_comes(self):
        chance = random.Random(3)
        done = 0
        for client in some_clients(4, 300, 2, 8):
            for _ in range(10):
                often = chance.choice((2, 4, 9))
                run = (False,) + tuple(chance.randrange(often) == 0 for _ in range(99))
                for many in range(101):
                    right = play(client, run[:many])
                    if right is not None:
                        break
                self.assertEqual(handed(client, run[:many]), right)
                if right is not None and is_safe(client):
                    self.assertEqual(len(set(right)), 1)
                    done += 1
                if right is not None and many < 100:
                    self.refuses_run(client, run[:many + 1])
        self.assertGreater(done, 300)


class MostReadsTest(Asking):

    def test_up_to_twenty_changes(self):
        for changes in range(21):
            self.assertEqual(most_reads(LONE, changes), 1)
            self.assertEqual(most_reads(PAIR, changes), 2 * changes + 2)
            self.assertEqual(most_reads(LATE, changes), 8 * changes + 8)
            self.assertEqual(most_reads(BLIND, changes), 3)
            self.assertEqual(most_reads(STUCK, changes), None if changes else 2)
        for client in some_clients(5, 60, 2, 6):
            if ends(client):
                for changes in (7, 20):
                    self.assertEqual(most_reads(client, changes), most_by_words(client, changes))
                more = [most_reads(client, changes) for changes in range(21)]
                self.assertEqual(more, sorted(more))

    def test_a_run_with_the_most_pieces_is_one(self):
        # One round costs a change: the last STEP finds STEP 0 elder, and all begins anew.
        run = (False,) * 7 + ((True,) + (False,) * 7) * 20 + (False,)
        self.assertEqual((len(run), run.count(True)), (168, 20))
        self.assertEqual(handed(LATE, run), (20,) * 8)
        self.assertEqual(most_reads(LATE, 20), 168)

    def test_numbers(self):
        things = odd_things() + [21, 22, -1, HUGE, "1", (1,), [1], True, False]
        for at, thing in enumerate(things):
            with self.subTest(at=at):
                for client in (LONE, STUCK):
                    self.refused(BadNumber, {"given": thing}, most_reads, client, thing)


class HandedTest(Playing):

    def test_runs(self):
        for client, run, right in (
                (LONE, (), None), (LONE, (False,), (0,)),
                (PAIR, (), None), (PAIR, (False,), None), (PAIR, (False, False), (0, 0)),
                (PAIR, (False, True), None), (PAIR, (False, True, False), None),
                (PAIR, (False, True, False, False), (1, 1)), (PAIR, (False, True, True, False), (2, 2)),
                (PAIR, (False, True, False, True, True, False), (3, 3)),
                (BLIND, (False, True, True), (0, 1, 2)), (BLIND, (False, False, True), (0, 0, 1)),
                (STUCK, (False, True) + (False,) * 50, None), (STUCK, (False,) + (True,) * 50, None),
                (BLIND[:2] + (((0, 1), 1),), (False, False, True, False, False), None),
                (BLIND[:2] + (((1,), 1),), (False, False, True, False, False), (0, 1, 1)),
                (BLIND[:2] + (((1,), 0),), (False, False, True, False, False, False), (1, 1, 1)),
                (BLIND + (((1, 2), 2),), (False, True, True, False), None)):
            self.assertEqual(handed(client, run), right)
            self.assertEqual(handed(client, run), right)

    def test_a_piece_too_many(self):
        for client, run in ((LONE, (False, False)), (LONE, (False, True)), (PAIR, (False, False, False)),
                            (PAIR, (False, True, False, False, True)), (BLIND, (False,) * 4), (LATE, (False,) * 9),
                            (LONE, (False,) * 400)):
            self.refuses_run(client, run)

    def test_long_runs(self):
        run = (False, True) + (False,) * 398
        self.assertIsNone(handed(STUCK, run))
        self.refuses_run(STUCK, run + (False,))
        run = (False, True) * 199 + (False, False)
        self.assertEqual(handed(PAIR, run), (199, 199))
        for more in (True, False):
            self.refuses_run(PAIR, run + (more,))
        run = (False,) + (True,) * 399
        self.assertIsNone(handed(STUCK, run))
        self.refuses_run(STUCK, run + (True,))

    def test_what_is_no_run(self):
        # Of these odd things () and what holds False alone are RUNs.
        things = [thing for thing in odd_things() if type(thing) is not tuple or [item for item in thing if item is not False]]
        things += [(True,), (True, False), (0,), (False, 0), (False, 1), (False, None), [False], (False, "False"),
                   (False, (False,)), (False, Thing()), (Thing(),), (False, HUGE), False, "", (False, []),
                   (False, nested(lambda thing: (thing,)))]
        for at, thing in enumerate(things):
            with self.subTest(at=at):
                for client in (PAIR, STUCK):
                    self.refuses_run(client, thing)


class RefusalsTest(Asking):

    def test_wrong_values(self):
        for at, thing in enumerate(odd_things()):
            number = 0 if type(thing) is tuple and 1 <= len(thing) <= 8 else None
            with self.subTest(at=at):
                for ask in ASKS:
                    self.refused(BadClient, {"number": number}, ask, thing)

    def test_wrong_steps(self):
        for thing in odd_things() + [((), 0, 0), ((),), [(), 0], ((), 3), ((), -1), ((), True), ((), None), ((), "0"),
                                     ((0, 0), 0), ((1, 0), 0), ((2,), 0), ((0, 2), 0), ((-1,), 0), ((False,), 0),
                                     ((True,), 0), ([0], 0), ([], 0), (0, 0), (None, 0), ("", 0), ((0, 1, 1), 0),
                                     ((0, HUGE), 0), ((), HUGE), ((0, None), 0), (((),), 0), ({}, 0), (set(), 0)]:
            self.refused(BadClient, {"number": 2}, need_client, PAIR + (thing,))
            self.refused(BadClient, {"number": 2}, need_client, PAIR + (thing, None, ((), 0)))

    def test_how_many_steps(self):
        row = tuple(((), 0) for _ in range(9))
        self.assertEqual(need_client(row[:8]), row[:8])
        for client, number in ((), None), (row, None), (row + (None,), None), ((None,) + row, None), (list(PAIR), None):
            for ask in ASKS:
                self.refused(BadClient, {"number": number}, ask, client)

    def test_the_first_step_looks_at_none(self):
        for step in (((0,), 0), ((), 1), ((), -1), ((0,), 1), ((-1,), 0)):
            self.refused(BadClient, {"number": 0}, need_client, (step,))
            self.refused(BadClient, {"number": 0}, need_client, (step, None))

    def test_steps_look_ahead_of_themselves_and_go_back_as_far_as_themselves(self):
        for at in range(8):
            head = tuple(((), 0) for _ in range(at))
            self.assertTrue(need_client(head + ((tuple(range(at)), at),)))
            self.refused(BadClient, {"number": at}, need_client, head + ((tuple(range(at + 1)), at),))
            self.refused(BadClient, {"number": at}, need_client, head + (((at,), at),))
            self.refused(BadClient, {"number": at}, need_client, head + (((), at + 1),))

    def test_the_client_ahead_of_all_else(self):
        for wrong in (None, 21, True, (True,), "x", Thing()):
            self.refused(BadClient, {"number": 1}, most_reads, (((), 0), ((), 2)), wrong)
            self.refused(BadClient, {"number": None}, most_reads, (), wrong)
            self.refused(BadClient, {"number": 1}, handed, (((), 0), ((), 2)), wrong)
            self.refused(BadClient, {"number": None}, handed, None, wrong)


if __name__ == "__main__":
    unittest.main()
