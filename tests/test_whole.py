"""What the document promises over the whole program, and the interface's names and arguments."""

import copy
import fractions
import importlib
import inspect
import unittest

from fewturned.better import better, is_settled, moved
from fewturned.cases import paper, shows
from fewturned.errors import NoArrows, NoNumber, NoRow, NoText, NoWeb, TurnError
from fewturned.greatest import are_parts, greatest
from fewturned.kept import kept, row_behind
from fewturned.least import count_best, least, sure
from fewturned.parts import part_web, parts
from fewturned.rings import is_free, ring, rings
from fewturned.shares import come_to, fit, whole_shares
from fewturned.texts import read, shown
from fewturned.webs import checked, joined, turned, turned_about, weight, with_arrow
from samples import (FENCE_WEB, HALVES_WEB, RING_WEB, Draws, drawn_webs, full, junk, kinds, refusal, rows_of, some_rows,
                     some_webs, web_of)

INTERFACE = {
    "webs": {"checked": ["web"], "turned": ["web", "row"], "weight": ["web", "row"], "turned_about": ["web"],
             "joined": ["one", "other"], "with_arrow": ["web", "ahead", "behind", "more"]},
    "rings": {"ring": ["web"], "rings": ["web"], "is_free": ["web"]},
    "least": {"least": ["web"], "count_best": ["web"], "sure": ["web"]},
    "parts": {"parts": ["web"], "part_web": ["web", "number"]},
    "shares": {"fit": ["web", "thing"], "whole_shares": ["web"], "come_to": ["shares"]},
    "greatest": {"greatest": ["web"], "are_parts": ["web", "number", "thing"]},
    "cases": {"paper": ["web"], "shows": ["web", "number", "thing"]},
    "better": {"moved": ["web", "row", "thing", "place"], "is_settled": ["web", "row"], "better": ["web", "row"]},
    "kept": {"kept": ["many", "arrows"], "row_behind": ["many", "arrows"]},
    "texts": {"shown": ["web"], "read": ["text"]},
}

TWO_WAYS = web_of(4, [(0, 1), (1, 0), (1, 2), (1, 3), (2, 0), (3, 1)])


def calls():
    """Every function with things that it takes, made anew each time."""
    return [
        (checked, [TWO_WAYS]), (turned, [TWO_WAYS, (3, 2, 1, 0)]), (weight, [TWO_WAYS, (3, 2, 1, 0)]),
        (turned_about, [TWO_WAYS]), (joined, [RING_WEB, TWO_WAYS]), (with_arrow, [TWO_WAYS, 0, 2, 5]),
        (ring, [TWO_WAYS]), (ring, [(4, ())]), (rings, [full(4)]), (is_free, [TWO_WAYS]),
        (least, [TWO_WAYS]), (count_best, [TWO_WAYS]), (sure, [TWO_WAYS]), (sure, [full(5)]),
        (parts, [TWO_WAYS]), (part_web, [TWO_WAYS, 0]),
        (fit, [TWO_WAYS, [([0, 1], (1, 2)), ([0, 1, 2], (1, 3))]]), (whole_shares, [full(5)]),
        (come_to, [[([0, 1], (1, 2)), ([0, 1, 2], (1, 3))]]),
        (greatest, [full(4)]), (greatest, [TWO_WAYS]), (are_parts, [RING_WEB, (3, 1), [(0, 1), (0, 1), (1, 1)]]),
        (paper, [HALVES_WEB]), (paper, [full(5)]), (shows, [RING_WEB, 3, ("shares", [([0, 1, 2], (3, 1))])]),
        (shows, [(2, ()), 0, ("case", 0, 1, ("shares", []), ("case", 0, 1, ("closed", [0, 1]), ("shares", [])))]),
        (moved, [TWO_WAYS, (3, 2, 1, 0), 1, 3]), (is_settled, [TWO_WAYS, (3, 2, 1, 0)]),
        (better, [full(5), (4, 3, 2, 1, 0)]),
        (kept, [5, [(0, 1), (3, 0), (1, 3), (4, 2), (1, 0)]]), (row_behind, [5, [(0, 1), (3, 0), (1, 3), (4, 2)]]),
        (shown, [TWO_WAYS]), (read, ["things3\n0>1*5\n1>2*7\n"]),
    ]


def spoil(thing):
    """Every list within a thing changed."""
    if isinstance(thing, (tuple, list)):
        for part in thing:
            spoil(part)
    if isinstance(thing, list):
        thing.append("more")
        thing.reverse()


class Interface(unittest.TestCase):
    def test_names_and_arguments(self):
        for name, functions in INTERFACE.items():
            module = importlib.import_module(f"fewturned.{name}")
            for function, arguments in functions.items():
                given = inspect.signature(getattr(module, function)).parameters
                self.assertEqual(list(given), arguments, function)
                self.assertTrue(all(one.default is inspect.Parameter.empty for one in given.values()), function)

    def test_every_function_is_called_here(self):
        called = {call.__name__ for call, given in calls()}
        self.assertEqual(called, {function for functions in INTERFACE.values() for function in functions})

    def test_by_name(self):
        for call, given in calls():
            module = call.__module__.split(".")[1]
            named = dict(zip(INTERFACE[module][call.__name__], given))
            self.assertEqual(kinds(call(**named)), kinds(call(*given)))


class NothingKept(unittest.TestCase):
    def test_nothing_handed_in_is_changed(self):
        for call, given in calls():
            before = copy.deepcopy(given)
            call(*given)
            self.assertEqual(kinds(given), kinds(before), call.__name__)

    def test_what_was_told_and_then_changed_changes_no_later_answer(self):
        for call, given in calls():
            told = call(*given)
            expected = copy.deepcopy(told)
            spoil(told)
            self.assertEqual(kinds(call(*given)), kinds(expected), call.__name__)

    def test_what_was_handed_in_and_then_changed_changes_no_answer(self):
        for call, given in calls():
            told = call(*given)
            expected = copy.deepcopy(told)
            spoil(given)
            self.assertEqual(kinds(told), kinds(expected), call.__name__)
        for (call, given), (same, again) in zip(calls(), calls()):
            self.assertEqual(kinds(call(*given)), kinds(same(*again)))

    def test_equal_things_give_equal_answers(self):
        told = [call(*given) for call, given in calls()]
        again = [call(*copy.deepcopy(given)) for call, given in reversed(calls())]
        self.assertEqual(kinds(told), kinds(again[::-1]))


class TrueAndFalse(unittest.TestCase):
    def test_in_the_place_of_every_number(self):
        for wrong in (True, False):
            for call, given, error in (
                    (with_arrow, (full(4), wrong, 2, 1), NoNumber), (with_arrow, (full(4), 2, wrong, 1), NoNumber),
                    (with_arrow, (full(4), 0, 1, wrong), NoNumber), (part_web, ((3, ()), wrong), NoNumber),
                    (shows, (full(4), wrong, ("shares", [])), NoNumber), (moved, (full(2), (0, 1), wrong, 0), NoNumber),
                    (moved, (full(2), (0, 1), 0, wrong), NoNumber), (kept, (wrong, []), NoNumber),
                    (row_behind, (wrong, []), NoNumber), (kept, (3, [(wrong, 2)]), NoArrows),
                    (row_behind, (3, [(2, wrong)]), NoArrows), (weight, (full(2), (wrong, not wrong)), NoRow),
                    (better, (full(2), (wrong, 1 - wrong)), NoRow), (shown, ((2, ((wrong, 1 - wrong, 1),)),), NoWeb),
                    (read, (wrong,), NoText)):
                self.assertIs(refusal(call, *given), error, (call.__name__, given))


class Refusals(unittest.TestCase):
    def test_all_are_turn_errors_and_value_errors(self):
        for call, given in calls():
            if call is come_to:
                continue
            for thing in junk():
                try:
                    call(thing, *given[1:])
                except TurnError as error:
                    self.assertIsInstance(error, ValueError)
                    self.assertIs(type(error).__mro__[1], TurnError)


class Weights(unittest.TestCase):
    def webs(self):
        return list(drawn_webs(7, 1)) + list(some_webs())[::2] + [HALVES_WEB, FENCE_WEB]

    def test_no_row_weighs_less_than_all_shares_together(self):
        draws = Draws(53)
        for web in self.webs():
            found = [whole_shares(web), thinned(draws, web)]
            if web[0] <= 5:
                found.append(greatest(web)[1])
            for shares in found:
                self.assertIs(fit(web, shares), True)
                total = fractions.Fraction(*come_to(shares))
                self.assertLessEqual(total, least(web)[0])
                for row in rows_of(web[0])[::1 + web[0] ** 3 // 20]:
                    self.assertLessEqual(total, weight(web, row))

    def test_the_greatest_shares_are_between_the_whole_ones_and_the_least_weight(self):
        for web in self.webs():
            if web[0] <= 5:
                number = fractions.Fraction(*greatest(web)[0])
                self.assertLessEqual(fractions.Fraction(*come_to(whole_shares(web))), number)
                self.assertLessEqual(number, least(web)[0])

    def test_what_is_shown_is_no_more_than_the_least_weight(self):
        for web in self.webs():
            number = least(web)[0]
            self.assertIs(shows(web, number + 1, ("shares", whole_shares(web))), False)
            if web[0] <= 6:
                self.assertIs(shows(web, number, paper(web)), True)
                self.assertIs(shows(web, number + 1, paper(web)), False)

    def test_one_of_a_row_and_the_row_turned_about(self):
        for web in self.webs():
            total = sum(arrow[2] for arrow in web[1])
            for row in some_rows(web[0])[::5]:
                about = tuple(reversed(row))
                self.assertEqual(weight(web, row) + weight(web, about), total)
                self.assertLessEqual(2 * min(weight(web, row), weight(web, about)), total)
                self.assertEqual(weight(turned_about(web), about), weight(web, row))

    def test_just_free_webs_have_a_row_of_weight_0(self):
        met = set()
        for web in self.webs():
            number, row = least(web)
            self.assertEqual(is_free(web), number == 0)
            self.assertEqual(weight(web, row), number)
            self.assertEqual(is_free(web), rings(web) == [])
            self.assertEqual(is_free(web), ring(web) is None)
            self.assertEqual(is_free(web), whole_shares(web) == [])
            self.assertEqual(is_free(web), len(parts(web)) == web[0])
            met.add(is_free(web))
        self.assertEqual(met, {True, False})

    def test_no_better_row_weighs_less_than_the_least_weight(self):
        for web in self.webs():
            told = better(web, tuple(range(web[0])))
            self.assertGreaterEqual(weight(web, told[-1]), least(web)[0])
            self.assertIs(is_settled(web, told[-1]), True)
            self.assertEqual(better(web, least(web)[1]), [least(web)[1]])

    def test_arrows_that_are_not_taken_weigh_no_less_than_some_row(self):
        for web in self.webs():
            coming = [arrow[:2] for arrow in web[1]]
            left_out = [arrow for arrow, does in zip(web[1], kept(web[0], coming)) if does[0] == "ring"]
            taken = tuple(arrow for arrow in web[1] if arrow not in left_out)
            self.assertIs(is_free((web[0], taken)), True)
            self.assertEqual(turned((web[0], taken), row_behind(web[0], coming)), [])
            self.assertGreaterEqual(sum(arrow[2] for arrow in left_out), least(web)[0])

    def test_parts_and_texts(self):
        for web in self.webs():
            inner = [part_web(web, number) for number in range(len(parts(web)))]
            self.assertEqual(sum(least(one)[0] for one in inner), least(web)[0])
            for one in inner + [web, turned_about(web)]:
                self.assertEqual(kinds(read(shown(one))), kinds(one))

    def test_joined_and_with_an_arrow(self):
        for one in list(drawn_webs(3, 1)):
            for other in (RING_WEB, full(4), (1, ())):
                both = joined(one, other)
                self.assertEqual(least(both)[0], least(one)[0] + least(other)[0])
                more = with_arrow(both, 0, both[0] - 1, 7)
                self.assertLessEqual(least(both)[0], least(more)[0])
                self.assertLessEqual(least(more)[0], least(both)[0] + 7)
                self.assertEqual(read(shown(more)), more)


def thinned(draws, web):
    """Shares in fractions that fit: of some rings in turn a part of what is left of their scarcest arrow."""
    left = {(a, b): fractions.Fraction(w) for a, b, w in web[1]}
    found = []
    for one in rings(web)[::1 + draws.below(3)]:
        around = list(zip(one, one[1:] + one[:1]))
        share = min(left[step] for step in around) * fractions.Fraction(1 + draws.below(3), 3)
        # Downs are kept small.
        share = fractions.Fraction(int(share * 12), 12)
        if share:
            found.append((one, (share.numerator, share.denominator)))
            for step in around:
                left[step] -= share
    return found


if __name__ == "__main__":
    unittest.main()
