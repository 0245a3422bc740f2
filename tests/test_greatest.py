import copy
import unittest

from fewturned.errors import NoWeb, TooBig
from fewturned.greatest import are_parts, greatest, greatest_in
from fewturned.least import least
from fewturned.shares import come_to, fit, whole_shares
from samples import (HALVES, HALVES_WEB, NAMED_WRONG_WEBS, RING_WEB, Draws, all_webs, drawn_web, drawn_webs, full,
                     junk, kinds, pairs, plain_are_parts, plain_fit, plain_least, plain_sum, refusal, some_webs,
                     spoiled, web_of, wrong_webs)

# The parts of RING_WEB that turn its lightest arrow, and parts that come to more.
GOOD = [(0, 1), (0, 1), (1, 1)]
DEARER = [(1, 2), (1, 3), (1, 6)]
HALVES_PARTS = [(0, 1), (0, 1), (1, 2), (1, 2), (0, 1), (1, 2), (1, 2), (0, 1), (0, 1), (0, 1), (1, 2)]


class Checking(unittest.TestCase):
    def check_told(self, web, told):
        """Shares that fit and parts that come to the same number: so neither can be better."""
        self.assertIs(type(told), tuple)
        number, shares, parts = told
        self.assertTrue(plain_fit(web, shares), web)
        self.assertEqual(shares, sorted(shares))
        self.assertEqual(kinds(plain_sum([share for ring, share in shares])), kinds(number))
        self.assertTrue(plain_are_parts(web, number, parts), web)
        self.assertIs(fit(web, shares), True)
        self.assertEqual(come_to(shares), number)
        self.assertIs(are_parts(web, number, parts), True)


class Greatest(Checking):
    def check(self, web):
        told = greatest(web)
        self.check_told(web, told)
        whole = come_to(whole_shares(web))[0]
        self.assertLessEqual(whole * told[0][1], told[0][0])
        # With at most 5 things the parts can be had whole, so the greatest shares come to the least weight.
        self.assertEqual(told[0], (least(web)[0], 1), web)

    def test_by_hand(self):
        self.assertEqual(kinds(greatest(RING_WEB)), kinds(((3, 1), [([0, 1, 2], (3, 1))], GOOD)))
        self.assertEqual(kinds(greatest((2, ((0, 1, 99), (1, 0, 1))))), kinds(((1, 1), [([0, 1], (1, 1))],
                                                                               [(0, 1), (1, 1)])))
        self.assertEqual(greatest((2, ((0, 1, 99), (1, 0, 99))))[:2], ((99, 1), [([0, 1], (99, 1))]))

    def test_no_rings(self):
        for many in range(1, 6):
            self.assertEqual(kinds(greatest((many, ()))), kinds(((0, 1), [], [])))
            chosen = [(a, b) for a, b in pairs(many) if a > b]
            web = web_of(many, chosen)
            self.assertEqual(greatest(web)[:2], ((0, 1), []))
            self.check(web)

    def test_more_than_shares_that_leave_no_ring(self):
        web = (4, ((0, 1, 1), (0, 3, 1), (1, 0, 1), (1, 2, 1), (2, 3, 1), (3, 0, 1)))
        self.check(web)
        self.assertEqual(greatest(web)[0], (2, 1))
        # The ring of all four things alone leaves no other ring, and is less than can be.
        self.assertIs(fit(web, [([0, 1, 2, 3], (1, 1))]), True)

    def test_all_small_webs(self):
        for many in (1, 2, 3):
            for web in all_webs(many):
                self.check(web)
        for web in list(all_webs(4))[::9]:
            self.check(web)

    def test_webs_of_all_sizes_and_weights(self):
        for web in drawn_webs(5, 3):
            self.check(web)
        for web in some_webs():
            if web[0] <= 5:
                self.check(web)

    def test_five_things_and_six(self):
        for web in ((5, ()), full(5), web_of(5, [(0, 4), (4, 0)])):
            self.assertIsNone(refusal(greatest, web))
        for many in (6, 7):
            for web in ((many, ()), full(many), web_of(many, [(0, 4), (4, 0)]), web_of(many, [(0, 5)])):
                self.assertIs(refusal(greatest, web), TooBig)
        self.assertIs(refusal(greatest, HALVES_WEB), TooBig)

    def test_wrong_webs(self):
        for web in wrong_webs():
            self.assertIs(refusal(greatest, web), NoWeb)

    def test_a_wrong_web_is_refused_ahead_of_too_big(self):
        for web in ((6, None), (6, []), (7, ((0, 0, 1),)), (6, ((0, 1, 100),)), (7, ((0, 1, True),)), (8, ()),
                    (7, ((1, 0, 5), (0, 1, 5))), (9, ((0, 1, 1),)), (6, ((0, 1, 1), (0, 1, 1))), [6, ()]):
            self.assertIs(refusal(greatest, web), NoWeb)


class NoWholeNumber(Checking):
    """The reckoning behind `greatest`, on webs of 6 things: those of at most 5 all come to whole numbers."""

    def test_by_hand(self):
        told = greatest_in(HALVES_WEB, {})
        self.check_told(HALVES_WEB, told)
        self.assertEqual(kinds(told[0]), kinds((5, 2)))
        self.assertEqual(least(HALVES_WEB)[0], 3)

    def test_the_same_web_heavier(self):
        for load in (2, 3, 98, 99):
            web = (6, tuple((a, b, load) for a, b, w in HALVES_WEB[1]))
            told = greatest_in(web, {})
            self.check_told(web, told)
            self.assertEqual(told[0], (5 * load, 2) if load % 2 else (5 * load // 2, 1))
            self.assertLess(told[0][0], told[0][1] * plain_least(web))

    def test_six_things(self):
        draws = Draws(3)
        for top in (1, 3, 9, 99):
            for few in (2, 4, 6):
                web = drawn_web(draws, 6, few, top)
                told = greatest_in(web, {})
                self.check_told(web, told)
                self.assertLessEqual(told[0][0], told[0][1] * least(web)[0])


class AreParts(unittest.TestCase):
    def test_by_hand(self):
        self.assertIs(are_parts(RING_WEB, (3, 1), GOOD), True)
        self.assertIs(are_parts(RING_WEB, (16, 3), DEARER), True)
        self.assertIs(are_parts(RING_WEB, (15, 1), [(1, 1), (1, 1), (1, 1)]), True)
        self.assertIs(are_parts(HALVES_WEB, (5, 2), HALVES_PARTS), True)
        self.assertEqual(come_to(HALVES), (5, 2))

    def test_no_arrows(self):
        for many in range(1, 8):
            self.assertIs(are_parts((many, ()), (0, 1), []), True)
            self.assertIs(are_parts((many, ()), (1, 1), []), False)
            self.assertIs(are_parts((many, ()), (0, 1), [(0, 1)]), False)
            self.assertIs(are_parts((many, ()), (0, 1), ()), False)

    def test_no_rings(self):
        web = (3, ((0, 1, 5), (1, 2, 99)))
        self.assertIs(are_parts(web, (0, 1), [(0, 1), (0, 1)]), True)
        self.assertIs(are_parts(web, (99, 2), [(0, 1), (1, 2)]), True)
        self.assertIs(are_parts(web, (0, 1), [(0, 1), (1, 2)]), False)

    def test_another_number_than_the_parts_come_to(self):
        for number in ((0, 1), (2, 1), (4, 1), (1, 3), (299, 100), (301, 100), (30, 1)):
            self.assertIs(are_parts(RING_WEB, number, GOOD), False, number)
        for number in ((3, 1), (5, 1), (16, 1), (3, 16), (17, 3)):
            self.assertIs(are_parts(RING_WEB, number, DEARER), False, number)

    def test_less_than_1_along_a_ring(self):
        self.assertIs(are_parts(RING_WEB, (297, 100), [(0, 1), (0, 1), (99, 100)]), False)
        self.assertIs(are_parts(RING_WEB, (0, 1), [(0, 1), (0, 1), (0, 1)]), False)
        web = (3, ((0, 1, 2), (0, 2, 1), (1, 0, 1), (2, 0, 1)))
        self.assertIs(are_parts(web, (2, 1), [(0, 1), (0, 1), (1, 1), (1, 1)]), True)
        self.assertIs(are_parts(web, (1, 1), [(0, 1), (0, 1), (1, 1), (0, 1)]), False)
        self.assertIs(are_parts(web, (1, 1), [(0, 1), (0, 1), (0, 1), (1, 1)]), False)

    def test_just_1_along_a_ring_by_unlike_downs(self):
        web = (3, ((0, 1, 6), (1, 2, 6), (2, 0, 6)))
        self.assertIs(are_parts(web, (6, 1), [(1, 2), (1, 3), (1, 6)]), True)
        self.assertIs(are_parts(web, (31, 5), [(1, 2), (1, 3), (1, 5)]), True)
        self.assertIs(are_parts(web, (41, 7), [(1, 2), (1, 3), (1, 7)]), False)

    def test_too_few_and_too_many(self):
        self.assertIs(are_parts(RING_WEB, (7, 1), [(0, 1), (1, 1)]), False)
        self.assertIs(are_parts(RING_WEB, (3, 1), GOOD + [(0, 1)]), False)
        self.assertIs(are_parts(RING_WEB, (0, 1), []), False)

    def test_named_wrong_parts(self):
        for wrong in ((-1, 1), (1, -1), (2, 1), (101, 100), (2, 2), (0, 2), (1, 0), (0, 0), 1, 0, True, False, "1",
                      None, [1, 1], [0, 1], (True, 1), (1, True), (False, 1), (1,), (1, 1, 1), 1.0, 0.5, (1.0, 1),
                      ("1", "1"), {}, {1: 1}):
            for place in range(3):
                for rest in ((0, 1), (1, 1)):
                    thing = [rest, rest, rest]
                    thing[place] = wrong
                    for number in ((3, 1), (5, 1), (7, 1), (8, 1), (10, 1), (12, 1), (15, 1), (6, 1), (18, 1)):
                        self.assertIs(are_parts(RING_WEB, number, thing), False, thing)

    def test_other_kinds_than_a_list(self):
        for thing in (tuple(GOOD), dict(enumerate(GOOD)), "parts", None, 3, True, {}, (), "", set(GOOD)):
            self.assertIs(are_parts(RING_WEB, (3, 1), thing), False)

    def test_things_of_any_kind(self):
        for thing in junk():
            self.assertIs(are_parts(RING_WEB, (3, 1), thing), False)
            self.assertIs(are_parts((3, ()), (0, 1), thing), type(thing) is list and not thing)

    def test_spoiled_parts(self):
        for good, number in ((GOOD, (3, 1)), (DEARER, (16, 3))):
            for thing in spoiled(good):
                self.assertIs(are_parts(RING_WEB, number, thing), plain_are_parts(RING_WEB, number, thing))

    def test_parts_of_webs_of_all_sizes(self):
        for web in drawn_webs(7, 1):
            for part in ((1, 7), (1, 4), (1, 3), (1, 2), (1, 1)):
                thing = [part for arrow in web[1]]
                total = plain_sum([(arrow[2] * part[0], part[1]) for arrow in web[1]])
                self.assertIs(are_parts(web, total, thing), plain_are_parts(web, total, thing))

    def test_six_and_seven_things_are_not_refused(self):
        for many in (6, 7):
            web = (many, ((0, 5, 4), (5, 0, 6)))
            self.assertIs(are_parts(web, (5, 1), [(1, 2), (1, 2)]), True)
            self.assertIs(are_parts(web, (4, 1), [(1, 2), (1, 2)]), False)

    def test_numbers_that_are_no_fractions(self):
        for number in (3, True, None, "3", [3, 1], (6, 2), (3,), (3, True), (3, 1, 1), 3.0, (3.0, 1), (-3, -1)):
            self.assertIs(are_parts(RING_WEB, number, GOOD), False)
        self.assertIs(are_parts((2, ((0, 1, 1), (1, 0, 1))), (True, 1), [(0, 1), (1, 1)]), False)

    def test_wrong_webs(self):
        for web in wrong_webs():
            self.assertIs(refusal(are_parts, web, (3, 1), GOOD), NoWeb)

    def test_the_web_is_refused_whatever_the_thing(self):
        for web in NAMED_WRONG_WEBS:
            for thing in (None, True, [None], GOOD, "parts", (), {}, []):
                self.assertIs(refusal(are_parts, web, (3, 1), thing), NoWeb)


class NothingKept(unittest.TestCase):
    def test_what_is_handed_in_is_unchanged(self):
        for web in some_webs():
            if web[0] <= 5:
                before = copy.deepcopy(web)
                number, shares, thing = greatest(web)
                parts = copy.deepcopy(thing)
                are_parts(web, number, thing)
                are_parts(web, (1000, 7), thing)
                self.assertEqual(kinds(web), kinds(before))
                self.assertEqual(kinds(thing), kinds(parts))

    def test_what_is_refused_is_unchanged(self):
        web = [3, [[2, 0, 3], [0, 1, 5]]]
        thing = [[0, 1], (2, 2)]
        for wrong in (web, (3, web[1])):
            self.assertIs(refusal(greatest, wrong), NoWeb)
            self.assertIs(refusal(are_parts, wrong, (3, 1), thing), NoWeb)
        self.assertIs(are_parts((2, ((0, 1, 1), (1, 0, 1))), (1, 1), thing), False)
        self.assertEqual(web, [3, [[2, 0, 3], [0, 1, 5]]])
        self.assertEqual(thing, [[0, 1], (2, 2)])

    def test_a_list_that_was_told_is_new_each_time(self):
        for web in (RING_WEB, full(4), full(5), (3, ())):
            told = greatest(web)
            expected = copy.deepcopy(told)
            for ring, share in told[1]:
                ring.append("more")
            told[1].append(None)
            told[2].append(None)
            told[2][0] = "less"
            self.assertEqual(greatest(web), expected)

    def test_equal_things_give_equal_answers(self):
        for web in some_webs():
            if web[0] <= 5:
                again = (web[0], tuple(tuple(list(arrow)) for arrow in web[1]))
                self.assertEqual(greatest(again), greatest(web))
                number, shares, parts = greatest(web)
                self.assertIs(are_parts(again, number, copy.deepcopy(parts)), True)


if __name__ == "__main__":
    unittest.main()
