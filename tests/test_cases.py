import copy
import fractions
import unittest

from fewturned.cases import paper, shows
from fewturned.errors import NoNumber, NoWeb, TooBig
from fewturned.greatest import greatest_in
from fewturned.least import least
from fewturned.shares import come_to, whole_shares
from samples import (FENCE_WEB, HALVES, HALVES_WEB, NAMED_WRONG_WEBS, RING_WEB, Draws, all_webs, drawn_web, drawn_webs,
                     full, junk, kinds, pairs, plain_least, plain_rings, plain_shows, plain_weight, refusal, rows_of,
                     some_webs, spoiled, web_of, wrong_webs)

# Arrows both ways; turned is the one or the other.
BOTH_WAYS = (2, ((0, 1, 5), (1, 0, 3)))
BOTH_CASES = ("case", 0, 1, ("shares", [([0, 1], (3, 1))]), ("shares", [([0, 1], (5, 1))]))

# Where 0 stands ahead of 1 and 1 ahead of 2, 2 can't stand ahead of 0.
CLOSING = (3, ((2, 0, 4),))
CLOSED = ("closed", [0, 1, 2])
NOTHING = ("shares", [])


def three_cases(first, second, third):
    """0 ahead of 1, then 1 ahead of 2, then 2 ahead of 0: the first tree; one of these not so: the others."""
    return ("case", 0, 1, ("case", 1, 2, ("case", 2, 0, first, second), third), NOTHING)


def heavier(web, load):
    return (web[0], tuple((a, b, w * load) for a, b, w in web[1]))


def whole_tree(web, undecided, cases):
    """Case by case until all are told: closed where they go round, else each turned arrow is in a ring of two."""
    closed = plain_rings((web[0], tuple((one, other, 1) for one, other in sorted(cases))))
    if closed:
        return ("closed", closed[-1])
    if not undecided:
        return ("shares", [([min(a, b), max(a, b)], (w, 1)) for a, b, w in web[1] if (b, a) in cases])
    one, other = undecided[0]
    ahead = whole_tree(web, undecided[1:], cases + [(one, other)])
    return ("case", one, other, ahead, whole_tree(web, undecided[1:], cases + [(other, one)]))


def whole_trees(web):
    every = [(a, b) for a, b in pairs(web[0]) if a < b]
    yield whole_tree(web, every, [])
    yield whole_tree(web, [(b, a) for a, b in every[::-1]], [])


def ends(tree):
    return [tree] if tree[0] != "case" else ends(tree[3]) + ends(tree[4])


def end_of(tree, row):
    """The end that a row comes to, case by case."""
    while tree[0] == "case":
        tree = tree[3] if row.index(tree[1]) < row.index(tree[2]) else tree[4]
    return tree


class Checking(unittest.TestCase):
    def check(self, web, number, tree):
        """A paper for the number and not for one more, by `shows`, by a second way, and row by row."""
        for wanted in (0, number):
            self.assertIs(shows(web, wanted, tree), True, web)
            self.assertTrue(plain_shows(web, wanted, tree), web)
        self.assertIs(shows(web, number + 1, tree), False, web)
        self.assertFalse(plain_shows(web, number + 1, tree), web)
        for row in rows_of(web[0])[::1 + web[0] // 6 * 6]:
            end = end_of(tree, row)
            self.assertEqual(end[0], "shares")
            total = sum(fractions.Fraction(*share) for ring, share in end[1])
            self.assertLessEqual(number, total)
            self.assertLessEqual(total, plain_weight(web, row))


class Paper(Checking):
    def check_paper(self, web):
        self.check(web, least(web)[0], paper(web))

    def test_by_hand(self):
        for web, number in ((RING_WEB, 3), (BOTH_WAYS, 3), (CLOSING, 0), ((1, ()), 0), (HALVES_WEB, 3), (FENCE_WEB, 2)):
            self.assertEqual(plain_least(web), number)
            self.check(web, number, paper(web))

    def test_no_arrows_and_free_webs(self):
        for many in range(1, 7):
            for chosen in ([], [(a, b) for a, b in pairs(many) if a > b], [(a, b) for a, b in pairs(many) if a < b]):
                self.check(web_of(many, chosen), 0, paper(web_of(many, chosen)))

    def test_all_small_webs(self):
        for many in (1, 2, 3):
            for web in all_webs(many):
                self.check_paper(web)
        for web in list(all_webs(4))[::17]:
            self.check_paper(web)

    def test_webs_of_all_sizes_and_weights(self):
        for web in list(drawn_webs(5, 2)) + [web for web in some_webs() if web[0] <= 5]:
            self.check_paper(web)

    def test_six_things(self):
        for web in list(drawn_webs(6, 1)) + list(some_webs()):
            if web[0] == 6:
                self.check_paper(web)
        self.check_paper(full(6))
        self.check_paper((6, tuple((a, b, 99) for a, b in pairs(6))))

    def test_webs_where_shares_alone_do_not_reach_the_least_weight(self):
        for web in (HALVES_WEB, FENCE_WEB):
            for load in (1, 2, 3, 50, 99):
                number, shares, parts = greatest_in(heavier(web, load), {})
                self.assertLess(number[0], number[1] * plain_least(heavier(web, load)))
                self.assertEqual(paper(heavier(web, load))[0], "case")
                self.check_paper(heavier(web, load))

    def test_such_webs_with_other_arrows_too(self):
        draws = Draws(29)
        split = 0
        for again in range(12):
            for web in (HALVES_WEB, FENCE_WEB):
                load = {(a, b): 9 for a, b, w in web[1]}
                for a, b, w in drawn_web(draws, 6, 2, 3)[1]:
                    load[(a, b)] = load.get((a, b), 0) + w
                more = (6, tuple((a, b, load[(a, b)]) for a, b in sorted(load)))
                split += paper(more)[0] == "case"
                self.check_paper(more)
        self.assertGreater(split, 5)

    def test_six_things_and_seven(self):
        for web in ((6, ()), web_of(6, [(0, 5), (5, 0)])):
            self.assertIsNone(refusal(paper, web))
        for web in ((7, ()), full(7), web_of(7, [(0, 1)]), web_of(7, [(0, 6), (6, 0)])):
            self.assertIs(refusal(paper, web), TooBig)

    def test_wrong_webs(self):
        for web in wrong_webs():
            self.assertIs(refusal(paper, web), NoWeb)

    def test_a_wrong_web_is_refused_ahead_of_too_big(self):
        for web in ((7, None), (7, []), (7, ((0, 0, 1),)), (7, ((0, 1, 100),)), (7, ((0, 1, True),)), (8, ()),
                    (7, ((1, 0, 5), (0, 1, 5))), (9, ((0, 1, 1),)), (7, ((0, 1, 1), (0, 1, 1))), [7, ()]):
            self.assertIs(refusal(paper, web), NoWeb)


class Shares(unittest.TestCase):
    """Papers of shares alone."""

    def test_no_shares(self):
        for web in ((1, ()), RING_WEB, full(6), full(7)):
            self.assertIs(shows(web, 0, NOTHING), True)
            self.assertIs(shows(web, 1, NOTHING), False)

    def test_the_least_weight_and_one_more(self):
        tree = ("shares", [([0, 1, 2], (3, 1))])
        for number in range(4):
            self.assertIs(shows(RING_WEB, number, tree), True)
        for number in (4, 5, 99, 10 ** 5000):
            self.assertIs(shows(RING_WEB, number, tree), False)

    def test_shares_that_come_to_no_whole_number(self):
        self.assertIs(shows(HALVES_WEB, 2, ("shares", HALVES)), True)
        self.assertIs(shows(HALVES_WEB, 3, ("shares", HALVES)), False)
        self.assertIs(shows(RING_WEB, 1, ("shares", [([0, 1, 2], (999, 1000))])), False)
        self.assertIs(shows(RING_WEB, 1, ("shares", [([0, 1, 2], (1001, 1000))])), True)

    def test_a_share_more_than_there_is(self):
        for number in (0, 1, 3):
            self.assertIs(shows(RING_WEB, number, ("shares", [([0, 1, 2], (4, 1))])), False)
            self.assertIs(shows(RING_WEB, number, ("shares", [([0, 1, 2], (3001, 1000))])), False)

    def test_a_ring_that_is_none(self):
        for ring in ([0, 2, 1], [1, 2, 0], [0], [], [0, 1], [0, 1, 2, 0], (0, 1, 2), [0, True, 2], [0, 1, 3]):
            self.assertIs(shows(RING_WEB, 0, ("shares", [(ring, (1, 1))])), False)

    def test_a_ring_twice(self):
        self.assertIs(shows(RING_WEB, 2, ("shares", [([0, 1, 2], (1, 1)), ([0, 1, 2], (1, 1))])), False)

    def test_six_and_seven_things_are_not_refused(self):
        for many in (6, 7):
            for web in (full(many), web_of(many, [(0, 5), (5, 0)])):
                shares = whole_shares(web)
                total = come_to(shares)[0]
                self.assertIs(shows(web, total, ("shares", shares)), True)
                self.assertIs(shows(web, total + 1, ("shares", shares)), False)


class Cases(Checking):
    def test_a_step_by_a_case_wants_no_share_even_where_there_is_an_arrow(self):
        self.check(BOTH_WAYS, 3, BOTH_CASES)
        more = ("case", 0, 1, ("shares", [([0, 1], (3, 1))]), ("shares", [([0, 1], (501, 100))]))
        self.assertIs(shows(BOTH_WAYS, 3, more), False)
        more = ("case", 0, 1, ("shares", [([0, 1], (301, 100))]), ("shares", [([0, 1], (5, 1))]))
        self.assertIs(shows(BOTH_WAYS, 3, more), False)

    def test_the_first_tree_is_for_ahead_and_the_second_for_behind(self):
        swapped = ("case", 0, 1, BOTH_CASES[4], BOTH_CASES[3])
        self.assertIs(shows(BOTH_WAYS, 0, swapped), False)
        self.assertIs(shows(BOTH_WAYS, 3, ("case", 1, 0, BOTH_CASES[4], BOTH_CASES[3])), True)
        self.assertIs(shows(BOTH_WAYS, 0, ("case", 1, 0, BOTH_CASES[3], BOTH_CASES[4])), False)

    def test_a_step_without_an_arrow(self):
        web = (3, ((1, 2, 7), (2, 0, 3)))
        ahead = ("shares", [([0, 1, 2], (3, 1))])
        self.assertIs(shows(web, 0, ("case", 0, 1, ahead, NOTHING)), True)
        self.assertIs(shows(web, 0, ("case", 1, 0, ahead, NOTHING)), False)
        self.assertIs(shows(web, 0, ("case", 1, 0, NOTHING, ahead)), True)
        self.assertIs(shows(web, 0, ("case", 0, 2, ahead, NOTHING)), False)
        self.assertIs(shows(web, 0, ahead), False)
        self.assertIs(shows(web, 0, ("case", 0, 1, ("shares", [([0, 1, 2], (4, 1))]), NOTHING)), False)

    def test_an_arrow_the_other_way_still_wants_its_share(self):
        ahead = ("shares", [([0, 1], (4, 1))])
        self.assertIs(shows(BOTH_WAYS, 0, ("case", 0, 1, ahead, NOTHING)), False)
        self.assertIs(shows(BOTH_WAYS, 0, ("case", 0, 1, NOTHING, ahead)), True)

    def test_several_rings_by_one_case(self):
        web = (4, ((0, 1, 1), (1, 2, 2), (1, 3, 3), (2, 0, 2), (3, 0, 3)))
        ahead = ("shares", [([0, 1, 2], (2, 1)), ([0, 1, 3], (3, 1))])
        self.assertIs(shows(web, 0, ahead), False)
        self.assertIs(shows(web, 0, ("case", 0, 1, ahead, NOTHING)), True)
        for ring in ([0, 1], [0, 1, 2]):
            self.assertIs(shows(web, 1, ("case", 0, 1, ahead, ("shares", [(ring, (1, 1))]))), True)
            self.assertIs(shows(web, 2, ("case", 0, 1, ahead, ("shares", [(ring, (1, 1))]))), False)
            self.assertIs(shows(web, 1, ("case", 0, 1, ahead, ("shares", [(ring, (2, 1))]))), False)

    def test_both_trees_come_to_the_number(self):
        for one in range(4):
            for other in range(6):
                trees = [("shares", [([0, 1], (share, 1))] if share else []) for share in (one, other)]
                for number in range(7):
                    expected = number <= min(one, other)
                    self.assertIs(shows(BOTH_WAYS, number, ("case", 0, 1, trees[0], trees[1])), expected)

    def test_only_a_case_itself_tells_it(self):
        by_way_of_1 = ("shares", [([0, 1, 2], (4, 1))])
        straight = ("shares", [([0, 2], (4, 1))])
        for end, expected in ((by_way_of_1, True), (straight, False)):
            tree = ("case", 0, 1, ("case", 1, 2, end, NOTHING), NOTHING)
            self.assertIs(shows(CLOSING, 0, tree), expected)
            self.assertIs(plain_shows(CLOSING, 0, tree), expected)
        self.assertIs(shows(CLOSING, 0, ("case", 0, 2, straight, NOTHING)), True)

    def test_only_cases_taken_so_far_count(self):
        ring = ("shares", [([0, 1], (3, 1))])
        web = (3, ((1, 0, 3),))
        self.assertIs(shows(web, 0, ("case", 0, 1, ring, NOTHING)), True)
        self.assertIs(shows(web, 0, ("case", 0, 1, ring, ring)), False)
        within = ("case", 0, 2, ("case", 0, 1, ring, NOTHING), ring)
        self.assertIs(shows(web, 0, within), False)
        within = ("case", 0, 2, ("case", 0, 1, ring, NOTHING), ("case", 1, 0, NOTHING, ring))
        self.assertIs(shows(web, 0, within), True)

    def test_a_ring_by_cases_alone_may_have_any_share(self):
        ring = ("shares", [([0, 1, 2], (1000, 1))])
        self.assertIs(shows(CLOSING, 0, three_cases(ring, NOTHING, NOTHING)), True)
        again = ("case", 0, 1, ("shares", [([0, 1], (1000, 1))]), NOTHING)
        self.assertIs(shows(BOTH_WAYS, 0, ("case", 0, 1, NOTHING, again)), True)
        self.assertIs(shows(BOTH_WAYS, 0, ("case", 0, 1, again, NOTHING)), False)

    def test_a_case_that_was_taken_may_come_again(self):
        again = ("case", 0, 1, BOTH_CASES[3], ("closed", [1, 0]))
        self.check(BOTH_WAYS, 3, ("case", 0, 1, again, BOTH_CASES[4]))
        self.assertIs(shows(BOTH_WAYS, 3, ("case", 0, 1, BOTH_CASES[3], again)), False)
        again = ("case", 0, 1, ("closed", [0, 1]), BOTH_CASES[4])
        self.check(BOTH_WAYS, 3, ("case", 0, 1, BOTH_CASES[3], again))

    def test_two_like_things_and_things_that_there_are_not(self):
        for one in range(-3, 5):
            for other in range(-3, 5):
                expected = (one, other) in pairs(3)
                self.assertIs(shows(RING_WEB, 0, ("case", one, other, NOTHING, NOTHING)), expected)
        for one, other in ((True, 2), (0, True), (False, 1), (2, False), ("0", 1), (0, "1"), (None, 1), (0, None),
                           (0.0, 1), (0, 1.0), ([0], 1), (0, (1,)), ({}, 1)):
            self.assertIs(shows(RING_WEB, 0, ("case", one, other, NOTHING, NOTHING)), False)
            self.assertIs(shows(RING_WEB, 0, ("case", 1, 2, ("case", one, other, NOTHING, NOTHING), NOTHING)), False)
        self.assertIs(shows((1, ()), 0, ("case", 0, 0, NOTHING, NOTHING)), False)
        self.assertIs(shows((1, ()), 0, ("case", 0, 1, NOTHING, NOTHING)), False)

    def test_cases_within_cases_until_all_are_told(self):
        for many in (1, 2, 3):
            for web in list(all_webs(many))[::3]:
                for tree in whole_trees(web):
                    self.check(web, plain_least(web), tree)
        for web in drawn_webs(4, 1):
            for tree in whole_trees(web):
                self.check(web, plain_least(web), tree)
        for web in (full(5), web_of(5, pairs(5)[::3])):
            for tree in whole_trees(web):
                self.check(web, plain_least(web), tree)

    def test_such_trees_for_other_webs(self):
        draws = Draws(41)
        for again in range(60):
            web = drawn_web(draws, 3, 7, 3)
            other = drawn_web(draws, 3, 7, 3)
            for tree in whole_trees(other):
                for number in range(4):
                    self.assertIs(shows(web, number, tree), plain_shows(web, number, tree))

    def test_trees_deeper_than_calls_may_go(self):
        tree = BOTH_CASES
        wrong = ("case", 0, 1, NOTHING, None)
        for again in range(20000):
            tree = ("case", 0, 1, tree, ("shares", [([0, 1], (5, 1))]))
            wrong = ("case", 0, 1, NOTHING, wrong)
        self.assertIs(shows(BOTH_WAYS, 0, wrong), False)
        # Below the first case the second trees stand in both cases at once, so that any share is right there.
        self.assertIs(shows(BOTH_WAYS, 3, tree), True)
        self.assertIs(shows(BOTH_WAYS, 4, tree), False)


class Closed(Checking):
    def test_beginning_anywhere(self):
        for ring in ([0, 1, 2], [1, 2, 0], [2, 0, 1]):
            self.check(CLOSING, 0, three_cases(("closed", ring), NOTHING, NOTHING))

    def test_where_a_step_goes_by_no_case(self):
        for end in (("closed", [0, 2, 1]), ("closed", [0, 1]), ("closed", [0, 2]), ("closed", [1, 2]),
                    ("closed", [2, 1, 0]), ("closed", [0]), ("closed", [])):
            self.assertIs(shows(CLOSING, 0, three_cases(end, NOTHING, NOTHING)), False)
        self.assertIs(shows(CLOSING, 0, three_cases(NOTHING, CLOSED, NOTHING)), False)
        self.assertIs(shows(CLOSING, 0, three_cases(NOTHING, NOTHING, CLOSED)), False)

    def test_an_arrow_does_not_close(self):
        tree = ("case", 0, 1, ("case", 1, 2, CLOSED, NOTHING), NOTHING)
        self.assertIs(shows(CLOSING, 0, tree), False)
        self.assertIs(shows(RING_WEB, 0, CLOSED), False)
        self.assertIs(shows(BOTH_WAYS, 0, ("closed", [0, 1])), False)
        self.assertIs(shows(BOTH_WAYS, 0, ("case", 0, 1, ("closed", [0, 1]), NOTHING)), False)

    def test_no_ring(self):
        for ring in ((0, 1, 2), {0: 0, 1: 1, 2: 2}, "012", None, 0, [0, 1, 2, 0], [0, 1, 2, 0, 1, 2], [False, 1, 2],
                     [0, True, 2], [0, 1, "2"], [0, 1, 3], [0, 1, -1], [[0, 1, 2]], [0, 1, [2]], [0.0, 1, 2]):
            self.assertIs(shows(CLOSING, 0, three_cases(("closed", ring), NOTHING, NOTHING)), False)

    def test_a_thing_twice(self):
        tree = ("closed", [0, 1, 2, 1])
        for one, other in ((2, 1), (1, 0), (1, 2), (0, 1)):
            tree = ("case", one, other, tree, NOTHING)
        self.assertIs(shows(CLOSING, 0, tree), False)

    def test_where_it_is_closed_any_number_is_shown(self):
        closed = ("case", 1, 0, ("closed", [0, 1]), BOTH_CASES[3])
        for number in range(6):
            self.assertIs(shows(BOTH_WAYS, number, ("case", 0, 1, closed, BOTH_CASES[4])), number <= 3)
        twice = ("case", 1, 0, ("closed", [0, 1]), ("closed", [0, 1]))
        self.assertIs(shows(BOTH_WAYS, 3, ("case", 0, 1, twice, BOTH_CASES[4])), False)


class ThingsOfAnyKind(unittest.TestCase):
    def test_named_wrong_papers(self):
        shares = [([0, 1], (3, 1))]
        for thing in (["shares", shares], {"shares": shares}, shares, "shares", ("shares",), ("shares", shares, shares),
                      ("Shares", shares), ("share", shares), ("shares ", shares), ("", shares), (None, shares),
                      (b"shares", shares), (0, shares), (["shares"], shares), (True, shares), (shares, "shares"),
                      ("shares", tuple(shares)), ("shares", None), ("shares", {}), ("shares", ""), ("shares", ()),
                      ("shares", NOTHING), ("shares", [[[0, 1], (3, 1)]]), ("shares", [([0, 1], [3, 1])]),
                      ("shares", [((0, 1), (3, 1))]), ("shares", [([0, 1], (6, 2))]), ("shares", [([0, 1], 3)]),
                      ("shares", [([0, 1], (0, 1))]), ("shares", [([1, 0], (3, 1))]), ("shares", [([0, 1],)]),
                      ("case", shares), ("closed", shares), ("closed",), ("closed", [0, 1], [0, 1]),
                      ("case",), ("case", 0), ("case", 0, 1), ("case", 0, 1, NOTHING), (0, 1, NOTHING, NOTHING),
                      ("case", 0, 1, NOTHING, NOTHING, NOTHING), ("case", (0, 1), NOTHING, NOTHING),
                      ["case", 0, 1, NOTHING, NOTHING], ("case", 0, 1, (NOTHING, NOTHING)),
                      ("case", 0, 1, [NOTHING, NOTHING]), ("cases", 0, 1, NOTHING, NOTHING),
                      ("Case", 0, 1, NOTHING, NOTHING), (None, 0, 1, NOTHING, NOTHING),
                      ("case", 0, 1, NOTHING, None), ("case", 0, 1, None, NOTHING), ("case", 0, 1, NOTHING, ()),
                      ("case", 0, 1, list(NOTHING), NOTHING), ("case", 0, 1, NOTHING, list(NOTHING)),
                      ("case", NOTHING, NOTHING, 0, 1), ("case", 0, NOTHING, 1, NOTHING),
                      ("shares", 0, 1, NOTHING, NOTHING), ("closed", 0, 1, NOTHING, NOTHING)):
            self.assertIs(shows(BOTH_WAYS, 0, thing), False)
            self.assertFalse(plain_shows(BOTH_WAYS, 0, thing))
            self.assertIs(shows(BOTH_WAYS, 0, ("case", 0, 1, NOTHING, thing)), False)
            self.assertIs(shows(BOTH_WAYS, 0, ("case", 0, 1, thing, NOTHING)), False)

    def test_things_of_any_kind(self):
        for web in (BOTH_WAYS, RING_WEB, (1, ()), full(7)):
            for thing in junk():
                self.assertIs(shows(web, 0, thing), False)
                self.assertIs(shows(web, 0, ("closed", thing)), False)
                self.assertIs(shows(web, 0, ("shares", thing)), type(thing) is list and not thing)

    def test_spoiled_papers(self):
        closing = three_cases(CLOSED, NOTHING, ("shares", [([0, 1, 2], (1, 2))]))
        for web, number, tree in ((BOTH_WAYS, 3, BOTH_CASES), (CLOSING, 0, closing)):
            for thing in spoiled(tree):
                self.assertIs(shows(web, number, thing), plain_shows(web, number, thing))

    def test_told_papers_exchanged(self):
        webs = [web for web in drawn_webs(4, 1) if web[1]] + [HALVES_WEB, FENCE_WEB]
        for web in webs:
            tree = paper(webs[(webs.index(web) + 3) % len(webs)])
            for number in (0, 1, 5):
                self.assertIs(shows(web, number, tree), plain_shows(web, number, tree))

    def test_told_papers_with_cases_exchanged(self):
        for web in (HALVES_WEB, FENCE_WEB):
            word, one, other, ahead, behind = paper(web)
            number = least(web)[0]
            for thing in ((word, one, other, behind, ahead), (word, other, one, ahead, behind)):
                self.assertIs(shows(web, number, thing), plain_shows(web, number, thing))
                self.assertIs(shows(web, number, thing), False)
            self.assertIs(shows(web, number, (word, other, one, behind, ahead)), True)
            for thing in (ahead, behind):
                self.assertIs(shows(web, number, thing), plain_shows(web, number, thing))
                self.assertIs(shows(web, number, thing), False)


class Refused(unittest.TestCase):
    def test_wrong_webs(self):
        for web in wrong_webs():
            self.assertIs(refusal(shows, web, 0, NOTHING), NoWeb)

    def test_wrong_numbers(self):
        for number in (-1, -2, -(10 ** 5000), True, False, None, "3", "", 3.0, 0.0, [3], (3,), (3, 1), {}, 1j):
            self.assertIs(refusal(shows, RING_WEB, number, NOTHING), NoNumber)
        for number in (0, 1, 3, 4, 10 ** 5000):
            self.assertIsNone(refusal(shows, RING_WEB, number, NOTHING))

    def test_numbers_of_any_kind(self):
        for number in junk():
            expected = None if type(number) is int and number >= 0 else NoNumber
            self.assertIs(refusal(shows, RING_WEB, number, NOTHING), expected)

    def test_the_number_is_refused_whatever_the_paper(self):
        for number in (-1, True, None, "0"):
            for thing in (None, True, [], "shares", (), {}, CLOSED, BOTH_CASES):
                self.assertIs(refusal(shows, RING_WEB, number, thing), NoNumber)

    def test_the_web_is_refused_first(self):
        for web in NAMED_WRONG_WEBS:
            for number in (0, -1, True, None, "0"):
                for thing in (None, NOTHING, BOTH_CASES):
                    self.assertIs(refusal(shows, web, number, thing), NoWeb)


def changed(tree):
    """Every list within a paper made wrong."""
    if tree[0] == "case":
        changed(tree[3])
        changed(tree[4])
    else:
        for one in tree[1]:
            if isinstance(one, tuple):
                one[0].append("more")
        tree[1].append(None)


class NothingKept(unittest.TestCase):
    def test_what_is_handed_in_is_unchanged(self):
        for web in list(some_webs()) + [HALVES_WEB, FENCE_WEB]:
            if web[0] <= 6:
                before = copy.deepcopy(web)
                tree = paper(web)
                same = copy.deepcopy(tree)
                shows(web, 0, tree)
                shows(web, 1000000, tree)
                self.assertEqual(kinds(web), kinds(before))
                self.assertEqual(kinds(tree), kinds(same))

    def test_what_is_no_paper_is_unchanged(self):
        for thing in (["shares", [([0, 1], [3, 1])]], ("shares", [[[1, 0], (3, 1)]]),
                      three_cases(CLOSED, CLOSED, CLOSED)):
            before = copy.deepcopy(thing)
            self.assertIs(shows(BOTH_WAYS, 0, thing), False)
            self.assertEqual(kinds(thing), kinds(before))

    def test_what_is_refused_is_unchanged(self):
        web = [3, [[2, 0, 3], [0, 1, 5]]]
        tree = copy.deepcopy(BOTH_CASES)
        for wrong in (web, (3, web[1])):
            self.assertIs(refusal(paper, wrong), NoWeb)
            self.assertIs(refusal(shows, wrong, 0, tree), NoWeb)
        self.assertIs(refusal(shows, RING_WEB, -1, tree), NoNumber)
        self.assertEqual(web, [3, [[2, 0, 3], [0, 1, 5]]])
        self.assertEqual(kinds(tree), kinds(BOTH_CASES))

    def test_a_paper_that_was_told_is_new_each_time(self):
        for web in (RING_WEB, BOTH_WAYS, full(5), (3, ()), HALVES_WEB, FENCE_WEB):
            told = paper(web)
            expected = copy.deepcopy(told)
            changed(told)
            self.assertIs(shows(web, 0, told), False)
            self.assertEqual(paper(web), expected)
            self.assertIs(shows(web, least(web)[0], expected), True)

    def test_no_two_lists_of_a_paper_are_one(self):
        for web in (full(6), HALVES_WEB, FENCE_WEB):
            found = [end[1] for end in ends(paper(web))]
            found.extend([ring for shares in list(found) for ring, share in shares])
            self.assertEqual(len({id(one) for one in found}), len(found))

    def test_equal_things_give_equal_answers(self):
        for web in list(some_webs()) + [HALVES_WEB]:
            if web[0] <= 6:
                again = (web[0], tuple(tuple(list(arrow)) for arrow in web[1]))
                tree = paper(web)
                self.assertEqual(kinds(paper(again)), kinds(tree))
                self.assertIs(shows(again, least(web)[0], copy.deepcopy(tree)), True)


if __name__ == "__main__":
    unittest.main()
