import copy
import itertools
import unittest

from fewturned.errors import NoWeb
from fewturned.least import count_best, least, sure
from fewturned.rings import is_free
from fewturned.webs import joined, turned, turned_about, weight, with_arrow
from samples import (RING_WEB, all_webs, drawn_webs, full, kinds, pairs, plain_best, plain_is_free, plain_weight,
                     refusal, some_webs, wrong_webs)


def without(web, arrows):
    return (web[0], tuple(arrow for arrow in web[1] if arrow not in arrows))


def plain_sure(web):
    best = plain_best(web)[1]
    return [(a, b) for a, b in pairs(web[0]) if all(row.index(a) < row.index(b) for row in best)]


class Best(unittest.TestCase):
    def check(self, web):
        lightest, best = plain_best(web)
        self.assertEqual(kinds(least(web)), kinds((lightest, best[0])), web)
        self.assertEqual(kinds(count_best(web)), kinds(len(best)), web)
        ahead = {pair for row in best for pair in itertools.combinations(row, 2)}
        expected = [(a, b) for a, b in pairs(web[0]) if (b, a) not in ahead]
        self.assertEqual(kinds(sure(web)), kinds(expected), web)

    def test_by_hand(self):
        self.assertEqual(kinds(least(RING_WEB)), kinds((3, (0, 1, 2))))
        self.assertEqual(kinds(count_best(RING_WEB)), kinds(1))
        self.assertEqual(kinds(sure(RING_WEB)), kinds([(0, 1), (0, 2), (1, 2)]))
        web = (3, ((0, 1, 4), (1, 2, 4), (2, 0, 4)))
        self.assertEqual(least(web), (4, (0, 1, 2)))
        self.assertEqual(count_best(web), 3)
        self.assertEqual(sure(web), [])
        web = (4, ((1, 0, 2), (2, 3, 1), (3, 2, 9)))
        self.assertEqual(least(web), (1, (1, 0, 3, 2)))
        self.assertEqual(count_best(web), 6)
        self.assertEqual(sure(web), [(1, 0), (3, 2)])

    def test_no_arrows(self):
        count = 1
        for many in range(1, 8):
            count *= many
            self.assertEqual(kinds(least((many, ()))), kinds((0, tuple(range(many)))))
            self.assertEqual(kinds(count_best((many, ()))), kinds(count))
            self.assertEqual(kinds(sure((many, ()))), kinds([]))

    def test_one_thing(self):
        self.assertEqual(kinds(least((1, ()))), kinds((0, (0,))))
        self.assertEqual(kinds(count_best((1, ()))), kinds(1))
        self.assertEqual(kinds(sure((1, ()))), kinds([]))

    def test_two_things_and_the_weights_1_and_99(self):
        for one in (1, 50, 98, 99):
            for other in (1, 50, 98, 99):
                self.check((2, ((0, 1, one), (1, 0, other))))
        self.assertEqual(least((2, ((0, 1, 1), (1, 0, 99)))), (1, (1, 0)))
        self.assertEqual(least((2, ((0, 1, 99), (1, 0, 99)))), (99, (0, 1)))

    def test_the_heaviest(self):
        web = (7, tuple((a, b, 99) for a, b in pairs(7)))
        self.assertEqual(least(web), (21 * 99, (0, 1, 2, 3, 4, 5, 6)))
        self.assertEqual(count_best(web), 5040)
        self.assertEqual(sure(web), [])

    def test_rows_turned_about(self):
        for many in range(1, 8):
            web = (many, tuple((a, b, 1) for a, b in pairs(many) if a > b))
            self.assertEqual(least(web), (0, tuple(range(many))[::-1]))
            self.assertEqual(count_best(web), 1)
            self.assertEqual(sure(web), [(a, b) for a, b in pairs(many) if a > b])

    def test_all_small_webs(self):
        for many in (1, 2, 3):
            for web in all_webs(many):
                self.check(web)

    def test_webs_of_all_sizes_and_weights(self):
        for web in drawn_webs(6, 2):
            self.check(web)

    def test_seven_things(self):
        for web in drawn_webs(7, 1):
            if web[0] == 7:
                self.check(web)

    def test_the_row_weighs_what_is_told(self):
        for web in list(some_webs()) + list(drawn_webs(7, 1)):
            lightest, row = least(web)
            self.assertEqual(weight(web, row), lightest)
            for one, other in sure(web):
                self.assertLess(row.index(one), row.index(other))


class WhatTheLeastWeightIs(unittest.TestCase):
    def test_just_free_webs_have_a_row_of_weight_0(self):
        for many in (1, 2, 3, 4):
            for web in all_webs(many):
                self.assertIs(least(web)[0] == 0, plain_is_free(web))
        for web in list(some_webs()) + list(drawn_webs(7, 2)):
            self.assertIs(least(web)[0] == 0, plain_is_free(web))
            self.assertIs(least(web)[0] == 0, is_free(web))

    def test_arrows_turned_by_a_best_row_taken_out_leave_a_free_web(self):
        for web in list(some_webs()) + list(drawn_webs(7, 1)):
            taken = turned(web, least(web)[1])
            self.assertEqual(sum(arrow[2] for arrow in taken), least(web)[0])
            self.assertEqual(least(without(web, taken))[0], 0)

    def test_arrows_that_leave_a_free_web_weigh_no_less_than_some_row(self):
        for web in list(all_webs(3)) + [web for web in drawn_webs(4, 1) if len(web[1]) < 9]:
            lightest = least(web)[0]
            found = []
            for choice in range(2 ** len(web[1])):
                taken = [arrow for k, arrow in enumerate(web[1]) if choice >> k & 1]
                if plain_is_free(without(web, taken)):
                    found.append(sum(arrow[2] for arrow in taken))
            self.assertEqual(min(found), lightest)

    def test_with_one_arrow_more(self):
        for web in drawn_webs(5, 1):
            for pair in pairs(web[0]):
                for more in (1, 7, 99):
                    if refusal(with_arrow, web, *pair, more) is None:
                        grown = least(with_arrow(web, *pair, more))[0] - least(web)[0]
                        self.assertTrue(0 <= grown <= more, (web, pair, more))

    def test_turned_about(self):
        for web in drawn_webs(7, 1):
            about = turned_about(web)
            self.assertEqual(least(about)[0], least(web)[0])
            self.assertEqual(count_best(about), count_best(web))
            self.assertEqual(sure(about), sorted((b, a) for a, b in sure(web)))

    def test_joined(self):
        for one in ((1, ()), RING_WEB, full(2), full(3)):
            for other in ((2, ()), RING_WEB, full(3), full(4)):
                both = least(joined(one, other))
                self.assertEqual(both[0], least(one)[0] + least(other)[0])

    def test_no_row_weighs_less(self):
        for web in drawn_webs(5, 1):
            lightest = least(web)[0]
            for row in itertools.permutations(range(web[0])):
                self.assertGreaterEqual(plain_weight(web, row), lightest)


class Refused(unittest.TestCase):
    def test_wrong_webs(self):
        for call in (least, count_best, sure):
            for web in wrong_webs():
                self.assertIs(refusal(call, web), NoWeb)

    def test_true_and_false_are_no_numbers(self):
        for call in (least, count_best, sure):
            for web in ((True, ()), (False, ()), (2, ((0, True, 1),)), (2, ((False, 1, 1),)), (2, ((0, 1, True),))):
                self.assertIs(refusal(call, web), NoWeb)


class NothingKept(unittest.TestCase):
    def test_what_is_handed_in_is_unchanged(self):
        for web in some_webs():
            before = copy.deepcopy(web)
            for call in (least, count_best, sure):
                call(web)
            self.assertEqual(kinds(web), kinds(before))

    def test_what_is_refused_is_unchanged(self):
        for call in (least, count_best, sure):
            web = [3, [[2, 0, 3], [0, 1, 5]]]
            self.assertIs(refusal(call, web), NoWeb)
            self.assertIs(refusal(call, (3, web[1])), NoWeb)
            self.assertEqual(web, [3, [[2, 0, 3], [0, 1, 5]]])

    def test_a_list_that_was_told_is_new_each_time(self):
        for web in (RING_WEB, (3, ()), full(5)):
            expected = plain_sure(web)
            told = sure(web)
            self.assertIsNot(sure(web), told)
            told.append("more")
            told[0] = None
            self.assertEqual(sure(web), expected)
            self.assertEqual(least(web), (plain_best(web)[0], plain_best(web)[1][0]))

    def test_equal_things_give_equal_answers(self):
        for web in some_webs():
            again = (web[0], tuple(tuple(list(arrow)) for arrow in web[1]))
            for call in (least, count_best, sure):
                self.assertEqual(call(web), call(again))


if __name__ == "__main__":
    unittest.main()
