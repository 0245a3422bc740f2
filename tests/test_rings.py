import copy
import unittest

from fewturned.errors import NoWeb
from fewturned.rings import is_free, ring, rings
from fewturned.webs import turned, turned_about
from samples import (RING_WEB, all_webs, full, kinds, pairs, plain_is_free, plain_least, plain_rings, plain_weight,
                     refusal, rows_of, some_rows, some_webs, web_of, wrong_webs)


def without(web, arrows):
    return (web[0], tuple(arrow for arrow in web[1] if arrow not in arrows))


def from_least(found):
    place = found.index(min(found))
    return found[place:] + found[:place]


class Rings(unittest.TestCase):
    def test_by_hand(self):
        web = (4, ((0, 1, 1), (1, 0, 1), (1, 2, 1), (2, 0, 1), (2, 3, 1), (3, 2, 1)))
        self.assertEqual(kinds(rings(web)), kinds([[0, 1], [0, 1, 2], [2, 3]]))
        self.assertEqual(kinds(rings(RING_WEB)), kinds([[0, 1, 2]]))
        self.assertEqual(kinds(rings((2, ((0, 1, 9), (1, 0, 9))))), kinds([[0, 1]]))

    def test_both_ways_round_are_two_rings(self):
        self.assertEqual(rings(full(3)), [[0, 1], [0, 1, 2], [0, 2], [0, 2, 1], [1, 2]])

    def test_no_rings(self):
        for many in range(1, 8):
            self.assertEqual(rings((many, ())), [])
            self.assertEqual(rings(web_of(many, [(a, b) for a, b in pairs(many) if a > b])), [])

    def test_how_many_there_can_be(self):
        counts = [len(rings(full(many))) for many in range(1, 8)]
        self.assertEqual(counts, [0, 1, 5, 20, 84, 409, 2365])

    def test_webs_of_all_sizes(self):
        for web in some_webs():
            self.assertEqual(kinds(rings(web)), kinds(plain_rings(web)))

    def test_all_small_webs(self):
        for many in (1, 2, 3, 4):
            for web in all_webs(many):
                self.assertEqual(rings(web), plain_rings(web))

    def test_weights_are_nothing_to_rings(self):
        for load in (1, 50, 99):
            self.assertEqual(rings((3, ((0, 1, load), (1, 2, 1), (2, 0, 99)))), [[0, 1, 2]])

    def test_a_ring_of_seven(self):
        web = web_of(7, [(0, 3), (1, 6), (2, 0), (3, 1), (4, 2), (5, 4), (6, 5)])
        self.assertEqual(rings(web), [[0, 3, 1, 6, 5, 4, 2]])
        self.assertEqual(from_least(ring(web)), [0, 3, 1, 6, 5, 4, 2])

    def test_wrong_webs(self):
        for web in wrong_webs():
            self.assertIs(refusal(rings, web), NoWeb)


class OneRing(unittest.TestCase):
    def check(self, web):
        every = plain_rings(web)
        found = ring(web)
        if not every:
            self.assertIsNone(found)
            return
        self.assertIs(type(found), list)
        self.assertTrue(all(type(thing) is int for thing in found))
        self.assertIn(from_least(found), every)
        self.assertEqual(len(found), min(map(len, every)))

    def test_webs_of_all_sizes(self):
        for web in some_webs():
            self.check(web)

    def test_all_small_webs(self):
        for many in (1, 2, 3, 4):
            for web in all_webs(many):
                self.check(web)

    def test_the_shortest_is_met_late(self):
        self.check(web_of(7, [(0, 1), (1, 2), (2, 0), (5, 6), (6, 5)]))
        self.check(web_of(7, [(0, 1), (1, 2), (2, 3), (3, 0), (4, 5), (5, 6), (6, 4)]))
        self.check(web_of(7, [(0, 1), (1, 2), (2, 3), (3, 4), (3, 6), (4, 5), (5, 0), (6, 3)]))
        self.check(web_of(6, [(0, 1), (1, 2), (2, 3), (3, 1), (3, 4), (4, 5), (5, 0)]))

    def test_no_ring(self):
        self.assertIsNone(ring((1, ())))
        self.assertIsNone(ring((7, ())))
        self.assertIsNone(ring((3, ((0, 1, 1), (0, 2, 1), (1, 2, 1)))))

    def test_wrong_webs(self):
        for web in wrong_webs():
            self.assertIs(refusal(ring, web), NoWeb)


class Free(unittest.TestCase):
    def test_webs_of_all_sizes(self):
        for web in some_webs():
            self.assertIs(is_free(web), plain_is_free(web))
            self.assertIs(is_free(web), plain_rings(web) == [])
            self.assertIs(is_free(turned_about(web)), plain_is_free(web))

    def test_all_small_webs(self):
        for many in (1, 2, 3, 4):
            for web in all_webs(many):
                self.assertIs(is_free(web), plain_is_free(web))

    def test_just_free_webs_have_a_row_of_weight_0(self):
        for many in (1, 2, 3):
            for web in all_webs(many):
                self.assertIs(is_free(web), plain_least(web) == 0)

    def test_turned_arrows_taken_out_leave_a_free_web(self):
        for web in some_webs():
            for row in some_rows(web[0])[:12]:
                self.assertIs(is_free(without(web, turned(web, row))), True)

    def test_arrows_that_leave_a_free_web_weigh_no_less_than_some_row(self):
        web = full(3)
        least = min(plain_weight(web, row) for row in rows_of(3))
        for left in all_webs(3):
            taken = [arrow for arrow in web[1] if arrow not in left[1]]
            if is_free(left):
                self.assertGreaterEqual(sum(arrow[2] for arrow in taken), least)

    def test_wrong_webs(self):
        for web in wrong_webs():
            self.assertIs(refusal(is_free, web), NoWeb)


class NothingKept(unittest.TestCase):
    def test_what_is_handed_in_is_unchanged(self):
        for web in some_webs():
            before = copy.deepcopy(web)
            ring(web)
            rings(web)
            is_free(web)
            self.assertEqual(kinds(web), kinds(before))

    def test_what_is_refused_is_unchanged(self):
        for call in (ring, rings, is_free):
            web = [3, [[2, 0, 3], [0, 1, 5]]]
            self.assertIs(refusal(call, web), NoWeb)
            self.assertIs(refusal(call, (3, web[1])), NoWeb)
            self.assertEqual(web, [3, [[2, 0, 3], [0, 1, 5]]])

    def test_a_list_that_was_told_is_new_each_time(self):
        expected = plain_rings(full(3))
        told = rings(full(3))
        for found in told:
            found.append("more")
        told.clear()
        self.assertEqual(rings(full(3)), expected)
        one = ring(RING_WEB)
        one.clear()
        self.assertEqual(from_least(ring(RING_WEB)), [0, 1, 2])
        none = rings((2, ()))
        none.append([0])
        self.assertEqual(rings((2, ())), [])

    def test_no_two_rings_told_are_one_list(self):
        told = rings(full(5))
        self.assertEqual(len({id(found) for found in told}), len(told))

    def test_equal_things_give_equal_answers(self):
        for web in some_webs():
            again = (web[0], tuple(tuple(list(arrow)) for arrow in web[1]))
            self.assertEqual(ring(web), ring(again))
            self.assertEqual(rings(web), rings(again))
            self.assertEqual(is_free(web), is_free(again))


if __name__ == "__main__":
    unittest.main()
