import copy
import unittest

from fewturned.errors import NoWeb
from fewturned.least import least
from fewturned.shares import come_to, fit, whole_shares
from samples import (HALVES, HALVES_WEB, NAMED_WRONG_WEBS, RING_WEB, all_webs, drawn_webs, full, junk, kinds, pairs,
                     plain_around, plain_fit, plain_left, plain_rings, plain_sum, refusal, some_webs, spoiled,
                     wrong_webs)

# Two rings share the arrow from 0 to 1; between 0 and 1, and 0 and 2, arrows lead both ways.
SHARED = (3, ((0, 1, 5), (0, 2, 1), (1, 0, 2), (1, 2, 7), (2, 0, 3)))
GOOD = [([0, 1], (3, 2)), ([0, 1, 2], (5, 2)), ([0, 2], (1, 2))]


def named_wrong_shares():
    """What are no shares of SHARED at all, with the reason."""
    good = ([0, 1], (1, 1))
    return [
        ("a tuple in the place of the list", (good,)),
        ("an empty tuple in the place of the list", ()),
        ("a dict in the place of the list", {0: good}),
        ("a text in the place of the list", ""),
        ("a share by itself", good),
        ("a list in the place of the tuple", [[[0, 1], (1, 1)]]),
        ("a list in the place of the fraction", [([0, 1], [1, 1])]),
        ("a tuple in the place of the ring", [((0, 1), (1, 1))]),
        ("a dict in the place of the ring", [({0: 0, 1: 1}, (1, 1))]),
        ("a text in the place of the ring", [("01", (1, 1))]),
        ("the other way about", [((1, 1), [0, 1])]),
        ("a ring alone", [[0, 1]]),
        ("a tuple of a ring alone", [([0, 1],)]),
        ("a tuple of three", [([0, 1], (1, 1), (1, 1))]),
        ("a tuple of ring, up and down", [([0, 1], 1, 1)]),
        ("a ring that does not begin with its least thing", [([1, 0], (1, 1))]),
        ("a longer ring that does not begin with its least thing", [([1, 2, 0], (1, 1))]),
        ("an empty ring", [([], (1, 1))]),
        ("a ring of one thing", [([0], (1, 1))]),
        ("a ring without an arrow for its last step", [([1, 2], (1, 1))]),
        ("a ring without an arrow for a step amidst", [([0, 2, 1], (1, 1))]),
        ("a thing twice, with arrows for all steps", [([0, 1, 0, 1], (1, 1))]),
        ("a thing twice, two rings in one", [([0, 1, 0, 2], (1, 1))]),
        ("the first thing once more at the end", [([0, 1, 0], (1, 1))]),
        ("a thing that is not there", [([0, 3], (1, 1))]),
        ("a thing below 0", [([0, -1], (1, 1))]),
        ("a thing of the end, counted from behind", [([-3, 1], (1, 1))]),
        ("True in a ring", [([0, True], (1, 1))]),
        ("False in a ring", [([False, 1], (1, 1))]),
        ("a text in a ring", [([0, "1"], (1, 1))]),
        ("a list in a ring", [([0, [1]], (1, 1))]),
        ("a float in a ring", [([0, 1.0], (1, 1))]),
        ("a ring twice", [([0, 1], (1, 1)), ([0, 1], (1, 1))]),
        ("a ring twice, with other shares", [([0, 1], (1, 1)), ([0, 2], (1, 2)), ([0, 1], (1, 2))]),
        ("a share of 0", [([0, 1], (0, 1))]),
        ("a share below 0", [([0, 1], (-1, 1))]),
        ("a share below 0 by its down", [([0, 1], (1, -1))]),
        ("both of a share below 0", [([0, 1], (-1, -1))]),
        ("a share by 0", [([0, 1], (1, 0))]),
        ("not in lowest terms", [([0, 1], (2, 4))]),
        ("a whole number not in lowest terms", [([0, 1], (2, 2))]),
        ("a whole number", [([0, 1], 1)]),
        ("a text", [([0, 1], "1")]),
        ("None", [([0, 1], None)]),
        ("a float", [([0, 1], 0.5)]),
        ("a fraction of floats", [([0, 1], (1.0, 2.0))]),
        ("a fraction of one number", [([0, 1], (1,))]),
        ("a fraction of three", [([0, 1], (1, 1, 1))]),
        ("True above in a fraction", [([0, 1], (True, 1))]),
        ("True below in a fraction", [([0, 1], (1, True))]),
        ("one good and one wrong", [good, ([0, 2], (0, 1))]),
        ("one good and None", [good, None]),
    ]


class Fit(unittest.TestCase):
    def test_by_hand(self):
        self.assertIs(fit(SHARED, GOOD), True)
        self.assertIs(fit(SHARED, []), True)
        self.assertIs(fit(RING_WEB, [([0, 1, 2], (3, 1))]), True)
        self.assertIs(fit(RING_WEB, [([0, 1, 2], (1, 1000))]), True)
        self.assertIs(fit(HALVES_WEB, HALVES), True)

    def test_shares_need_not_rise(self):
        self.assertIs(fit(SHARED, GOOD[::-1]), True)

    def test_just_an_arrows_weight_and_a_little_more(self):
        self.assertIs(fit(SHARED, [([0, 1], (2, 1)), ([0, 1, 2], (3, 1))]), True)
        self.assertIs(fit(SHARED, [([0, 1], (2, 1)), ([0, 1, 2], (301, 100))]), False)
        self.assertIs(fit(SHARED, [([0, 1], (201, 100))]), False)
        self.assertIs(fit(SHARED, [([0, 1, 2], (5, 2)), ([0, 2], (1, 2))]), True)
        self.assertIs(fit(SHARED, [([0, 1, 2], (5, 2)), ([0, 2], (51, 100))]), False)
        great = 10 ** 30
        self.assertIs(fit(RING_WEB, [([0, 1, 2], (3 * great - 1, great))]), True)
        self.assertIs(fit(RING_WEB, [([0, 1, 2], (3 * great + 1, great))]), False)

    def test_unlike_downs_come_to_just_a_weight(self):
        web = (4, ((0, 1, 1), (1, 0, 1), (1, 2, 1), (1, 3, 1), (2, 0, 1), (3, 0, 1)))
        self.assertIs(fit(web, [([0, 1], (1, 2)), ([0, 1, 2], (1, 3)), ([0, 1, 3], (1, 6))]), True)
        self.assertIs(fit(web, [([0, 1], (1, 2)), ([0, 1, 2], (1, 3)), ([0, 1, 3], (1, 5))]), False)

    def test_the_weights_1_and_99(self):
        for load in (1, 2, 50, 98, 99):
            web = (2, ((0, 1, 99), (1, 0, load)))
            self.assertIs(fit(web, [([0, 1], (load, 1))]), True)
            self.assertIs(fit(web, [([0, 1], (load + 1, 1))]), False)
            self.assertIs(fit(web, [([0, 1], (2 * load + 1, 2))]), False)
            self.assertIs(fit(web, [([0, 1], (2 * load - 1, 2))]), True)

    def test_named_wrong_shares(self):
        for reason, thing in named_wrong_shares():
            self.assertIs(fit(SHARED, thing), False, reason)
            self.assertFalse(plain_fit(SHARED, thing), reason)

    def test_things_of_any_kind(self):
        for thing in junk():
            for web in (SHARED, RING_WEB, (1, ()), full(7)):
                self.assertIs(fit(web, thing), type(thing) is list and not thing)

    def test_spoiled_shares(self):
        for thing in spoiled(GOOD):
            self.assertIs(fit(SHARED, thing), plain_fit(SHARED, thing))

    def test_no_arrows(self):
        for many in range(1, 8):
            self.assertIs(fit((many, ()), []), True)
            self.assertIs(fit((many, ()), [([0], (1, 1))]), False)
            self.assertIs(fit((many, ()), [([0, 1], (1, 1))]), False)

    def test_one_ring_of_webs_of_all_sizes(self):
        for web in drawn_webs(6, 1):
            load = {(a, b): w for a, b, w in web[1]}
            for ring in plain_rings(web)[::7]:
                most = min(load[step] for step in plain_around(ring))
                self.assertIs(fit(web, [(ring, (most, 1))]), True)
                self.assertIs(fit(web, [(ring, (3 * most + 1, 3))]), False)

    def test_the_same_share_for_all_rings(self):
        for web in drawn_webs(5, 1):
            every = plain_rings(web)
            for share in ((1, 9), (1, 4), (1, 2), (1, 1), (9, 7)):
                thing = [(ring, share) for ring in every]
                self.assertIs(fit(web, thing), plain_fit(web, thing))

    def test_no_row_weighs_less(self):
        self.assertEqual(come_to(GOOD), (9, 2))
        self.assertLess(9, 2 * least(SHARED)[0])
        self.assertEqual(come_to(HALVES), (5, 2))
        self.assertEqual(least(HALVES_WEB)[0], 3)

    def test_wrong_webs(self):
        for web in wrong_webs():
            self.assertIs(refusal(fit, web, []), NoWeb)

    def test_the_web_is_refused_whatever_the_thing(self):
        for web in NAMED_WRONG_WEBS:
            for thing in (None, True, [None], GOOD, "shares", (), {}):
                self.assertIs(refusal(fit, web, thing), NoWeb)


class WholeShares(unittest.TestCase):
    def check(self, web):
        told = whole_shares(web)
        self.assertTrue(plain_fit(web, told), web)
        self.assertIs(fit(web, told), True)
        self.assertTrue(all(share[1] == 1 for ring, share in told))
        left = plain_left(web, told)
        for ring in plain_rings(web):
            self.assertTrue(any(left[step] == 0 for step in plain_around(ring)), (web, ring))
        self.assertLessEqual(come_to(told)[0], least(web)[0])

    def test_by_hand(self):
        self.assertEqual(kinds(whole_shares(RING_WEB)), kinds([([0, 1, 2], (3, 1))]))
        self.assertEqual(kinds(whole_shares((2, ((0, 1, 99), (1, 0, 1))))), kinds([([0, 1], (1, 1))]))
        self.assertEqual(kinds(whole_shares((2, ((0, 1, 99), (1, 0, 99))))), kinds([([0, 1], (99, 1))]))
        self.check(SHARED)
        self.check(HALVES_WEB)

    def test_no_rings(self):
        for many in range(1, 8):
            self.assertEqual(kinds(whole_shares((many, ()))), kinds([]))
            web = (many, tuple((a, b, 9) for a, b in pairs(many) if a > b))
            self.assertEqual(kinds(whole_shares(web)), kinds([]))

    def test_all_small_webs(self):
        for many in (1, 2, 3):
            for web in all_webs(many):
                self.check(web)

    def test_webs_of_all_sizes_and_weights(self):
        for web in drawn_webs(6, 1):
            self.check(web)

    def test_seven_things(self):
        for web in list(some_webs())[::3] + list(drawn_webs(7, 1))[::4]:
            if web[0] == 7:
                self.check(web)
        self.check(full(7))

    def test_wrong_webs(self):
        for web in wrong_webs():
            self.assertIs(refusal(whole_shares, web), NoWeb)


class ComeTo(unittest.TestCase):
    def test_none(self):
        self.assertEqual(kinds(come_to([])), kinds((0, 1)))

    def test_by_hand(self):
        self.assertEqual(kinds(come_to([([0, 1, 2], (3, 1))])), kinds((3, 1)))
        self.assertEqual(kinds(come_to([([0, 1], (1, 2)), ([0, 2], (1, 2))])), kinds((1, 1)))
        self.assertEqual(kinds(come_to([([0, 1], (1, 6)), ([0, 2], (1, 3))])), kinds((1, 2)))
        self.assertEqual(kinds(come_to(GOOD)), kinds((9, 2)))
        self.assertEqual(kinds(come_to(HALVES)), kinds((5, 2)))

    def test_shares_that_do_not_fit(self):
        self.assertEqual(come_to([([0, 1], (1000, 1)), ([0, 2], (1, 1000))]), (1000001, 1000))

    def test_many(self):
        for web in drawn_webs(5, 1):
            thing = [(ring, (1, 1 + k % 12)) for k, ring in enumerate(plain_rings(web))]
            self.assertEqual(kinds(come_to(thing)), kinds(plain_sum([share for ring, share in thing])))


class NothingKept(unittest.TestCase):
    def test_what_is_handed_in_is_unchanged(self):
        for web in some_webs():
            before = copy.deepcopy(web)
            thing = whole_shares(web)
            shares = copy.deepcopy(thing)
            fit(web, thing)
            come_to(thing)
            self.assertEqual(kinds(web), kinds(before))
            self.assertEqual(kinds(thing), kinds(shares))

    def test_what_does_not_fit_is_unchanged(self):
        for reason, thing in named_wrong_shares():
            before = copy.deepcopy(thing)
            fit(SHARED, thing)
            self.assertEqual(kinds(thing), kinds(before), reason)

    def test_what_is_refused_is_unchanged(self):
        web = [3, [[2, 0, 3], [0, 1, 5]]]
        thing = copy.deepcopy(GOOD)
        for wrong in (web, (3, web[1])):
            self.assertIs(refusal(fit, wrong, thing), NoWeb)
            self.assertIs(refusal(whole_shares, wrong), NoWeb)
        self.assertEqual(web, [3, [[2, 0, 3], [0, 1, 5]]])
        self.assertEqual(thing, GOOD)

    def test_a_list_that_was_told_is_new_each_time(self):
        for web in (RING_WEB, SHARED, full(5), (3, ())):
            told = whole_shares(web)
            expected = copy.deepcopy(told)
            for ring, share in told:
                ring.append("more")
            told.append(None)
            self.assertEqual(whole_shares(web), expected)
            self.assertIs(fit(web, expected), True)

    def test_no_two_rings_told_are_one_list(self):
        told = whole_shares(full(6))
        self.assertEqual(len({id(ring) for ring, share in told}), len(told))

    def test_equal_things_give_equal_answers(self):
        for web in some_webs():
            again = (web[0], tuple(tuple(list(arrow)) for arrow in web[1]))
            told = whole_shares(web)
            self.assertEqual(whole_shares(again), told)
            self.assertEqual(fit(again, copy.deepcopy(told)), fit(web, told))
            self.assertEqual(come_to(copy.deepcopy(told)), come_to(told))


if __name__ == "__main__":
    unittest.main()
