import copy
import unittest

from fewturned.errors import NoNumber, NoWeb
from fewturned.least import least
from fewturned.parts import part_web, parts
from fewturned.webs import checked, joined, turned_about
from samples import (NAMED_WRONG_WEBS, RING_WEB, all_webs, drawn_webs, full, junk, kinds, pairs, plain_best, refusal,
                     some_webs, web_of, wrong_webs)


def plain_parts(web):
    """Who leads to whom is told by paths of ever more steps, through all things in turn."""
    leads = {(a, b) for a, b, w in web[1]} | {(a, a) for a in range(web[0])}
    for via in range(web[0]):
        for a in range(web[0]):
            for b in range(web[0]):
                if (a, via) in leads and (via, b) in leads:
                    leads.add((a, b))
    found = []
    for a in range(web[0]):
        part = [b for b in range(web[0]) if (a, b) in leads and (b, a) in leads]
        if part not in found:
            found.append(part)
    return found


class Parts(unittest.TestCase):
    def test_by_hand(self):
        web = web_of(7, [(0, 3), (1, 5), (2, 0), (3, 2), (3, 5), (4, 6), (5, 1), (6, 1)])
        self.assertEqual(kinds(parts(web)), kinds([[0, 2, 3], [1, 5], [4], [6]]))
        self.assertEqual(kinds(parts(RING_WEB)), kinds([[0, 1, 2]]))
        self.assertEqual(kinds(parts((2, ((0, 1, 9),)))), kinds([[0], [1]]))
        self.assertEqual(kinds(parts((2, ((0, 1, 9), (1, 0, 1))))), kinds([[0, 1]]))

    def test_one_thing(self):
        self.assertEqual(kinds(parts((1, ()))), kinds([[0]]))

    def test_no_arrows_and_all(self):
        for many in range(1, 8):
            self.assertEqual(parts((many, ())), [[thing] for thing in range(many)])
            self.assertEqual(parts(full(many)), [list(range(many))])

    def test_arrows_one_way_alone(self):
        for many in range(1, 8):
            for chosen in ([(a, b) for a, b in pairs(many) if a < b], [(a, b) for a, b in pairs(many) if a > b]):
                self.assertEqual(parts(web_of(many, chosen)), [[thing] for thing in range(many)])

    def test_a_long_way_round(self):
        web = web_of(7, [(0, 3), (1, 6), (2, 0), (3, 1), (4, 2), (5, 4), (6, 5)])
        self.assertEqual(parts(web), [[0, 1, 2, 3, 4, 5, 6]])

    def test_all_small_webs(self):
        for many in (1, 2, 3, 4):
            for web in all_webs(many):
                self.assertEqual(parts(web), plain_parts(web))

    def test_webs_of_all_sizes(self):
        for web in list(some_webs()) + list(drawn_webs(7, 3)):
            self.assertEqual(kinds(parts(web)), kinds(plain_parts(web)))
            self.assertEqual(parts(turned_about(web)), plain_parts(web))

    def test_wrong_webs(self):
        for web in wrong_webs():
            self.assertIs(refusal(parts, web), NoWeb)


class PartWebs(unittest.TestCase):
    def check(self, web):
        every = plain_parts(web)
        for number, part in enumerate(every):
            found = part_web(web, number)
            new = {thing: k for k, thing in enumerate(part)}
            arrows = sorted((new[a], new[b], w) for a, b, w in web[1] if a in new and b in new)
            self.assertEqual(kinds(found), kinds((len(part), tuple(arrows))))
            self.assertEqual(checked(found), found)
            self.assertEqual(parts(found), [list(range(len(part)))])
        self.assertIs(refusal(part_web, web, len(every)), NoNumber)
        self.assertIs(refusal(part_web, web, -1), NoNumber)

    def test_by_hand(self):
        web = (6, ((0, 1, 2), (1, 4, 3), (2, 5, 99), (3, 0, 5), (4, 1, 6), (5, 0, 1), (5, 2, 8)))
        self.assertEqual(parts(web), [[0], [1, 4], [2, 5], [3]])
        self.assertEqual(kinds(part_web(web, 0)), kinds((1, ())))
        self.assertEqual(kinds(part_web(web, 1)), kinds((2, ((0, 1, 3), (1, 0, 6)))))
        self.assertEqual(kinds(part_web(web, 2)), kinds((2, ((0, 1, 99), (1, 0, 8)))))
        self.assertEqual(kinds(part_web(web, 3)), kinds((1, ())))
        self.assertIs(refusal(part_web, web, 4), NoNumber)

    def test_the_whole_web_is_one_part(self):
        for many in range(1, 8):
            self.assertEqual(kinds(part_web(full(many), 0)), kinds(full(many)))
            self.assertIs(refusal(part_web, full(many), 1), NoNumber)

    def test_webs_of_all_sizes(self):
        for web in list(some_webs()) + list(drawn_webs(7, 2)):
            self.check(web)

    def test_all_small_webs(self):
        for web in all_webs(3):
            self.check(web)

    def test_parts_of_joined_webs(self):
        both = joined(RING_WEB, full(4))
        self.assertEqual(part_web(both, 0), RING_WEB)
        self.assertEqual(part_web(both, 1), full(4))

    def test_the_least_weight_is_that_of_all_parts_together(self):
        for web in list(some_webs()) + list(drawn_webs(7, 2)):
            several = [least(part_web(web, number))[0] for number in range(len(parts(web)))]
            self.assertEqual(sum(several), least(web)[0])
        for web in drawn_webs(5, 1):
            several = [plain_best(part_web(web, number))[0] for number in range(len(parts(web)))]
            self.assertEqual(sum(several), plain_best(web)[0])


class Refused(unittest.TestCase):
    def test_wrong_webs(self):
        for web in wrong_webs():
            self.assertIs(refusal(part_web, web, 0), NoWeb)

    def test_numbers(self):
        for many in range(1, 8):
            for number in range(-3, 12):
                expected = None if 0 <= number < many else NoNumber
                self.assertIs(refusal(part_web, (many, ()), number), expected, (many, number))

    def test_numbers_of_any_kind(self):
        for number in junk() + ["0", "1", [0], (0,), {0: 0}]:
            expected = None if type(number) is int and number in (0, 1, 2) else NoNumber
            self.assertIs(refusal(part_web, (3, ()), number), expected)

    def test_true_and_false_are_no_numbers(self):
        for number in (True, False):
            self.assertIs(refusal(part_web, (3, ()), number), NoNumber)

    def test_the_web_is_refused_first(self):
        for web in NAMED_WRONG_WEBS:
            for number in (-1, 7, None, "0", True, [0]):
                self.assertIs(refusal(part_web, web, number), NoWeb)


class NothingKept(unittest.TestCase):
    def test_what_is_handed_in_is_unchanged(self):
        for web in some_webs():
            before = copy.deepcopy(web)
            parts(web)
            part_web(web, 0)
            refusal(part_web, web, 7)
            self.assertEqual(kinds(web), kinds(before))

    def test_what_is_refused_is_unchanged(self):
        web = [3, [[2, 0, 3], [0, 1, 5]]]
        number = [0]
        self.assertIs(refusal(parts, web), NoWeb)
        self.assertIs(refusal(part_web, web, 0), NoWeb)
        self.assertIs(refusal(part_web, (3, web[1]), 0), NoWeb)
        self.assertIs(refusal(part_web, RING_WEB, number), NoNumber)
        self.assertEqual(web, [3, [[2, 0, 3], [0, 1, 5]]])
        self.assertEqual(number, [0])

    def test_a_list_that_was_told_is_new_each_time(self):
        for web in (RING_WEB, (3, ()), full(5)):
            expected = plain_parts(web)
            told = parts(web)
            for part in told:
                part.append("more")
            told.clear()
            self.assertEqual(parts(web), expected)
            self.assertEqual(part_web(web, len(expected) - 1)[0], len(expected[-1]))

    def test_no_two_parts_told_are_one_list(self):
        told = parts((7, ()))
        self.assertEqual(len({id(part) for part in told}), 7)

    def test_equal_things_give_equal_answers(self):
        for web in some_webs():
            again = (web[0], tuple(tuple(list(arrow)) for arrow in web[1]))
            self.assertEqual(parts(web), parts(again))
            self.assertEqual(part_web(web, 0), part_web(again, 0))


if __name__ == "__main__":
    unittest.main()
