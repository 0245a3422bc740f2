import copy
import unittest

from fewturned.errors import NoNumber, NoRow, NoWeb, TooBig
from fewturned.webs import checked, joined, turned, turned_about, weight, with_arrow
from samples import (NAMED_WRONG_ROWS, NAMED_WRONG_WEBS, RING_WEB, all_webs, full, junk, kinds, pairs, plain_is_row,
                     plain_is_web, plain_least, plain_turned, plain_weight, refusal, rows_of, some_rows, some_webs,
                     wrong_rows, wrong_webs)


class Checked(unittest.TestCase):
    def test_webs_of_all_sizes(self):
        for web in some_webs():
            self.assertEqual(kinds(checked(web)), kinds(web))

    def test_all_small_webs(self):
        for many in (1, 2, 3):
            for web in all_webs(many):
                self.assertEqual(kinds(checked(web)), kinds(web))

    def test_edges(self):
        for web in ((1, ()), (7, ()), (2, ((0, 1, 1),)), (2, ((0, 1, 99),)), (7, ((0, 6, 1), (6, 0, 99))), full(7)):
            self.assertEqual(kinds(checked(web)), kinds(web))
        self.assertEqual(len(full(7)[1]), 42)

    def test_both_ways_between_two_things(self):
        web = (2, ((0, 1, 3), (1, 0, 3)))
        self.assertEqual(checked(web), web)

    def test_weights_need_not_rise(self):
        web = (3, ((0, 1, 99), (0, 2, 1), (1, 0, 50)))
        self.assertEqual(checked(web), web)

    def test_numbers_of_things(self):
        for many in range(-3, 12):
            expected = None if 1 <= many <= 7 else NoWeb
            self.assertIs(refusal(checked, (many, ())), expected, many)

    def test_weights(self):
        for load in range(-3, 105):
            expected = None if 1 <= load <= 99 else NoWeb
            self.assertIs(refusal(checked, (2, ((1, 0, load),))), expected, load)

    def test_things_of_an_arrow(self):
        for many in range(1, 8):
            for ahead in range(-2, 10):
                for behind in range(-2, 10):
                    expected = None if (ahead, behind) in pairs(many) else NoWeb
                    self.assertIs(refusal(checked, (many, ((ahead, behind, 1),))), expected, (many, ahead, behind))

    def test_order_of_two_arrows(self):
        for one in pairs(4):
            for other in pairs(4):
                for load in (1, 2, 3):
                    expected = None if one < other else NoWeb
                    self.assertIs(refusal(checked, (4, (one + (2,), other + (load,)))), expected, (one, other))

    def test_wrong_webs(self):
        for web in wrong_webs():
            self.assertIs(refusal(checked, web), NoWeb)

    def test_named_wrong_webs_are_wrong(self):
        for web in NAMED_WRONG_WEBS:
            self.assertFalse(plain_is_web(web), web)
        for row in NAMED_WRONG_ROWS:
            self.assertFalse(plain_is_row(3, row), row)


class Turned(unittest.TestCase):
    def test_a_web_by_hand(self):
        web = (3, ((0, 1, 5), (0, 2, 2), (1, 2, 7), (2, 0, 3)))
        self.assertEqual(kinds(turned(web, (0, 1, 2))), kinds([(2, 0, 3)]))
        self.assertEqual(kinds(turned(web, (2, 1, 0))), kinds([(0, 1, 5), (0, 2, 2), (1, 2, 7)]))
        self.assertEqual(kinds(turned(web, (1, 2, 0))), kinds([(0, 1, 5), (0, 2, 2)]))
        self.assertEqual(kinds(weight(web, (0, 1, 2))), kinds(3))
        self.assertEqual(kinds(weight(web, (2, 1, 0))), kinds(14))
        self.assertEqual(kinds(weight(web, (1, 2, 0))), kinds(7))

    def test_one_thing(self):
        self.assertEqual(turned((1, ()), (0,)), [])
        self.assertEqual(kinds(weight((1, ()), (0,))), kinds(0))

    def test_several_rows_of_webs_of_all_sizes(self):
        for web in some_webs():
            for row in some_rows(web[0]):
                self.assertEqual(kinds(turned(web, row)), kinds(plain_turned(web, row)))
                self.assertEqual(kinds(weight(web, row)), kinds(plain_weight(web, row)))

    def test_all_rows_of_all_small_webs(self):
        for many in (1, 2, 3):
            for web in all_webs(many):
                for row in rows_of(many):
                    self.assertEqual(turned(web, row), plain_turned(web, row))
                    self.assertEqual(weight(web, row), plain_weight(web, row))

    def test_turned_arrows_rise(self):
        for row in some_rows(7):
            arrows = turned(full(7), row)
            self.assertEqual(arrows, sorted(arrows))
            self.assertEqual(len(arrows), 21)

    def test_heaviest(self):
        web = (7, tuple((a, b, 99) for a, b in pairs(7)))
        self.assertEqual(weight(web, (0, 1, 2, 3, 4, 5, 6)), 21 * 99)

    def test_wrong_webs(self):
        for call in (turned, weight):
            for web in wrong_webs():
                self.assertIs(refusal(call, web, (0, 1, 2)), NoWeb)

    def test_wrong_rows(self):
        for call in (turned, weight):
            for row in wrong_rows():
                self.assertIs(refusal(call, RING_WEB, row), NoRow)
                self.assertIs(refusal(call, (3, ()), row), NoRow)

    def test_rows_of_other_webs(self):
        for call in (turned, weight):
            for many in range(1, 8):
                for length in range(0, 10):
                    expected = None if length == many else NoRow
                    self.assertIs(refusal(call, full(many), tuple(range(length))), expected, (many, length))

    def test_the_web_is_refused_first(self):
        for call in (turned, weight):
            for row in NAMED_WRONG_ROWS:
                self.assertIs(refusal(call, (8, ()), row), NoWeb)
            for web in NAMED_WRONG_WEBS:
                self.assertIs(refusal(call, web, None), NoWeb)


class TurnedAbout(unittest.TestCase):
    def test_by_hand(self):
        web = (3, ((0, 1, 5), (0, 2, 2), (2, 1, 7)))
        self.assertEqual(kinds(turned_about(web)), kinds((3, ((1, 0, 5), (1, 2, 7), (2, 0, 2)))))
        self.assertEqual(kinds(turned_about((1, ()))), kinds((1, ())))

    def test_webs_of_all_sizes(self):
        for web in some_webs():
            about = turned_about(web)
            self.assertTrue(plain_is_web(about))
            self.assertEqual(about[0], web[0])
            self.assertEqual(sorted((b, a, w) for a, b, w in about[1]), list(web[1]))
            self.assertEqual(turned_about(about), web)

    def test_a_row_turned_about_weighs_the_same(self):
        for web in some_webs():
            for row in some_rows(web[0]):
                self.assertEqual(weight(turned_about(web), row[::-1]), weight(web, row))

    def test_wrong_webs(self):
        for web in wrong_webs():
            self.assertIs(refusal(turned_about, web), NoWeb)


class Joined(unittest.TestCase):
    def test_by_hand(self):
        other = (2, ((0, 1, 4), (1, 0, 6)))
        expected = (5, ((0, 1, 5), (1, 2, 7), (2, 0, 3), (3, 4, 4), (4, 3, 6)))
        self.assertEqual(kinds(joined(RING_WEB, other)), kinds(expected))
        expected = (5, ((0, 1, 4), (1, 0, 6), (2, 3, 5), (3, 4, 7), (4, 2, 3)))
        self.assertEqual(kinds(joined(other, RING_WEB)), kinds(expected))

    def test_a_web_with_itself(self):
        expected = (6, ((0, 1, 5), (1, 2, 7), (2, 0, 3), (3, 4, 5), (4, 5, 7), (5, 3, 3)))
        self.assertEqual(joined(RING_WEB, RING_WEB), expected)

    def test_all_sizes(self):
        for one in range(1, 8):
            for other in range(1, 8):
                first, second = full(one), full(other)
                if one + other > 7:
                    self.assertIs(refusal(joined, first, second), TooBig)
                    continue
                web = joined(first, second)
                self.assertTrue(plain_is_web(web))
                self.assertEqual(web[0], one + other)
                self.assertEqual(web[1][:len(first[1])], first[1])
                behind = [(a - one, b - one, w) for a, b, w in web[1][len(first[1]):]]
                self.assertEqual(tuple(behind), second[1])

    def test_just_seven_things_and_eight(self):
        self.assertEqual(joined((3, ()), (4, ())), (7, ()))
        self.assertEqual(joined((6, ()), (1, ())), (7, ()))
        self.assertEqual(joined((1, ()), (6, ())), (7, ()))
        for one in range(1, 8):
            self.assertIs(refusal(joined, (one, ()), (8 - one, ())), TooBig)
        self.assertIs(refusal(joined, (7, ()), (7, ())), TooBig)

    def test_least_weights_come_together(self):
        for one in ((1, ()), RING_WEB, full(2)):
            for other in ((2, ()), RING_WEB, full(3)):
                self.assertEqual(plain_least(joined(one, other)), plain_least(one) + plain_least(other))

    def test_wrong_webs(self):
        for web in wrong_webs():
            self.assertIs(refusal(joined, web, RING_WEB), NoWeb)
            self.assertIs(refusal(joined, RING_WEB, web), NoWeb)

    def test_a_wrong_web_is_refused_ahead_of_too_big(self):
        for web in NAMED_WRONG_WEBS:
            self.assertIs(refusal(joined, full(7), web), NoWeb)
            self.assertIs(refusal(joined, web, full(7)), NoWeb)
            self.assertIs(refusal(joined, web, web), NoWeb)


class WithArrow(unittest.TestCase):
    def test_a_new_arrow(self):
        expected = (3, ((0, 1, 5), (0, 2, 8), (1, 2, 7), (2, 0, 3)))
        self.assertEqual(kinds(with_arrow(RING_WEB, 0, 2, 8)), kinds(expected))
        self.assertEqual(kinds(with_arrow((2, ()), 1, 0, 1)), kinds((2, ((1, 0, 1),))))
        self.assertEqual(kinds(with_arrow((7, ()), 6, 0, 99)), kinds((7, ((6, 0, 99),))))

    def test_an_arrow_that_is_there(self):
        expected = (3, ((0, 1, 5), (1, 2, 17), (2, 0, 3)))
        self.assertEqual(kinds(with_arrow(RING_WEB, 1, 2, 10)), kinds(expected))

    def test_the_arrow_the_other_way_stays(self):
        expected = (3, ((0, 1, 5), (1, 0, 99), (1, 2, 7), (2, 0, 3)))
        self.assertEqual(kinds(with_arrow(RING_WEB, 1, 0, 99)), kinds(expected))

    def test_every_place_of_webs_of_all_sizes(self):
        for web in some_webs():
            loads = {(a, b): w for a, b, w in web[1]}
            for pair in pairs(web[0]):
                for more in (1, 40, 99):
                    after = dict(loads)
                    after[pair] = after.get(pair, 0) + more
                    if after[pair] > 99:
                        self.assertIs(refusal(with_arrow, web, *pair, more), TooBig)
                        continue
                    expected = (web[0], tuple(sorted((a, b, w) for (a, b), w in after.items())))
                    self.assertEqual(kinds(with_arrow(web, *pair, more)), kinds(expected))

    def test_just_99_and_100(self):
        for load in range(1, 100):
            web = (3, ((0, 1, 1), (1, 0, load), (1, 2, 99)))
            if load < 99:
                expected = (3, ((0, 1, 1), (1, 0, 99), (1, 2, 99)))
                self.assertEqual(with_arrow(web, 1, 0, 99 - load), expected)
            self.assertIs(refusal(with_arrow, web, 1, 0, 100 - load), TooBig)

    def test_the_least_weight_grows_by_the_weight_at_most(self):
        for web in all_webs(3):
            for pair in pairs(3):
                for more in (1, 7):
                    if refusal(with_arrow, web, *pair, more) is None:
                        grown = plain_least(with_arrow(web, *pair, more)) - plain_least(web)
                        self.assertTrue(0 <= grown <= more)

    def test_wrong_webs(self):
        for web in wrong_webs():
            self.assertIs(refusal(with_arrow, web, 0, 1, 1), NoWeb)

    def test_wrong_things(self):
        for many in (1, 2, 3, 7):
            for ahead in range(-2, 10):
                for behind in range(-2, 10):
                    expected = None if (ahead, behind) in pairs(many) else NoNumber
                    self.assertIs(refusal(with_arrow, (many, ()), ahead, behind, 5), expected, (many, ahead, behind))

    def test_wrong_weights(self):
        for more in range(-3, 105):
            expected = None if 1 <= more <= 99 else NoNumber
            self.assertIs(refusal(with_arrow, (3, ()), 2, 0, more), expected, more)

    def test_numbers_of_any_kind(self):
        for thing in junk() + ["1", [1], (1,), {1: 1}]:
            whole = type(thing) is int
            expected = None if whole and thing in (1, 2) else NoNumber
            self.assertIs(refusal(with_arrow, (3, ()), thing, 0, 5), expected)
            self.assertIs(refusal(with_arrow, (3, ()), 0, thing, 5), expected)
            expected = None if whole and 1 <= thing <= 99 else NoNumber
            self.assertIs(refusal(with_arrow, (3, ()), 0, 1, thing), expected)

    def test_true_and_false_are_no_numbers(self):
        for given in ((True, 0, 5), (0, True, 5), (False, 1, 5), (1, False, 5), (0, 1, True), (0, 1, False)):
            self.assertIs(refusal(with_arrow, (3, ()), *given), NoNumber, given)

    def test_which_is_refused_first(self):
        heavy = (2, ((0, 1, 99),))
        for web in NAMED_WRONG_WEBS:
            self.assertIs(refusal(with_arrow, web, 0, 0, 100), NoWeb)
            self.assertIs(refusal(with_arrow, web, None, None, None), NoWeb)
        self.assertIs(refusal(with_arrow, (8, ((0, 1, 99),)), 0, 1, 99), NoWeb)
        self.assertIs(refusal(with_arrow, heavy, 0, 1, 100), NoNumber)
        self.assertIs(refusal(with_arrow, heavy, 0, True, 99), NoNumber)
        self.assertIs(refusal(with_arrow, heavy, 0, 1, 1), TooBig)


class NothingKept(unittest.TestCase):
    def test_what_is_handed_in_is_unchanged(self):
        for web in some_webs():
            before = copy.deepcopy(web)
            row = tuple(range(web[0]))[::-1]
            turned(web, row)
            weight(web, row)
            checked(web)
            turned_about(web)
            refusal(joined, web, web)
            refusal(with_arrow, web, 0, 1, 1)
            self.assertEqual(kinds(web), kinds(before))
            self.assertEqual(row, tuple(range(web[0]))[::-1])

    def test_what_is_refused_is_unchanged(self):
        web = [3, [[2, 0, 3], [0, 1, 5]]]
        row = [2, 0, 1]
        for call, given in ((checked, (web,)), (turned, (web, row)), (turned, (RING_WEB, row)), (weight, (web, row)),
                            (weight, (RING_WEB, row)), (turned_about, (web,)), (joined, (web, web)),
                            (joined, (RING_WEB, web)), (with_arrow, (web, 0, 1, 1)),
                            (with_arrow, (RING_WEB, row, row, row)), (checked, (tuple(web),)),
                            (checked, ((3, tuple(web[1])),))):
            self.assertIsNotNone(refusal(call, *given))
            self.assertEqual(web, [3, [[2, 0, 3], [0, 1, 5]]])
            self.assertEqual(row, [2, 0, 1])

    def test_a_list_that_was_told_is_new_each_time(self):
        row = (2, 1, 0)
        told = turned(RING_WEB, row)
        self.assertIsNot(turned(RING_WEB, row), told)
        told.append("more")
        told[0] = None
        self.assertEqual(turned(RING_WEB, row), [(0, 1, 5), (1, 2, 7)])
        self.assertEqual(weight(RING_WEB, row), 12)
        empty = turned((3, ()), row)
        empty.append("more")
        self.assertEqual(turned((3, ()), row), [])

    def test_equal_things_give_equal_answers(self):
        for web in some_webs():
            again = copy.deepcopy(web[:1]) + (tuple(tuple(list(arrow)) for arrow in web[1]),)
            for row in some_rows(web[0])[:5]:
                self.assertEqual(turned(web, row), turned(again, tuple(list(row))))
            self.assertEqual(turned_about(web), turned_about(again))


if __name__ == "__main__":
    unittest.main()
