import copy
import unittest

from fewturned.better import better, is_settled, moved
from fewturned.errors import NoNumber, NoRow, NoWeb
from fewturned.least import least
from samples import (NAMED_WRONG_ROWS, NAMED_WRONG_WEBS, RING_WEB, all_webs, drawn_webs, full, junk, kinds, pairs,
                     plain_weight, refusal, rows_of, some_rows, some_webs, web_of, wrong_rows, wrong_webs)

# From this row several moves make it weigh least, to unlike rows: of 0 to 2 and 3, of 1 to 0 and 1, of 2 and of 3.
TIES = (4, ((0, 1, 1), (1, 0, 2), (2, 3, 1)))
TIES_ROW = (3, 0, 1, 2)

# No move makes this row weigh less than 1; two moves would make it weigh 0.
STUCK = (4, ((0, 1, 1), (2, 3, 2), (3, 0, 1)))
STUCK_ROW = (0, 1, 2, 3)


def plain_moved(row, thing, place):
    rest = list(row)
    rest.remove(thing)
    rest.insert(place, thing)
    return tuple(rest)


def plain_best_move(web, row):
    """The row by the best move, None if no move makes it weigh less."""
    found, least_so_far = None, plain_weight(web, row)
    for thing in range(web[0]):
        for place in range(web[0]):
            other = plain_moved(row, thing, place)
            if plain_weight(web, other) < least_so_far:
                found, least_so_far = other, plain_weight(web, other)
    return found


def plain_better(web, row):
    found = []
    while row is not None:
        found.append(row)
        row = plain_best_move(web, row)
    return found


def few_rows(many):
    return some_rows(many)[::1 + many // 5 * many // 3]


class Moved(unittest.TestCase):
    def test_by_hand(self):
        web = web_of(4, [(0, 1)])
        for thing, place, expected in ((3, 0, (3, 2, 0, 1)), (3, 1, (2, 3, 0, 1)), (3, 2, (2, 0, 3, 1)),
                                       (3, 3, (2, 0, 1, 3)), (2, 0, (2, 0, 3, 1)), (2, 1, (0, 2, 3, 1)),
                                       (2, 2, (0, 3, 2, 1)), (2, 3, (0, 3, 1, 2)), (1, 0, (1, 2, 0, 3)),
                                       (1, 3, (2, 0, 3, 1))):
            self.assertEqual(kinds(moved(web, (2, 0, 3, 1), thing, place)), kinds(expected), (thing, place))

    def test_every_move_of_webs_of_all_sizes(self):
        for many in range(1, 8):
            for web in ((many, ()), full(many)):
                for row in few_rows(many):
                    for thing in range(many):
                        for place in range(many):
                            expected = plain_moved(row, thing, place)
                            self.assertEqual(kinds(moved(web, row, thing, place)), kinds(expected))
                            self.assertEqual(expected.index(thing), place)

    def test_one_thing(self):
        self.assertEqual(kinds(moved((1, ()), (0,), 0, 0)), kinds((0,)))

    def test_to_its_own_place_nothing_changes(self):
        for many in range(1, 8):
            for row in few_rows(many):
                for place, thing in enumerate(row):
                    self.assertEqual(moved(full(many), row, thing, place), row)

    def test_the_last_place_and_one_beyond(self):
        for many in range(1, 8):
            row = tuple(range(many))
            for thing in range(-2, many + 3):
                for place in range(-2, many + 3):
                    expected = None if 0 <= thing < many and 0 <= place < many else NoNumber
                    self.assertIs(refusal(moved, full(many), row, thing, place), expected, (many, thing, place))

    def test_numbers_of_any_kind(self):
        row = (2, 0, 1)
        for number in junk():
            expected = None if type(number) is int and 0 <= number < 3 else NoNumber
            self.assertIs(refusal(moved, RING_WEB, row, number, 0), expected)
            self.assertIs(refusal(moved, RING_WEB, row, 0, number), expected)
            self.assertIs(refusal(moved, RING_WEB, row, number, number), expected)
            self.assertIs(refusal(moved, RING_WEB, row, number, 3), NoNumber)
            self.assertIs(refusal(moved, RING_WEB, row, None, number), NoNumber)

    def test_true_and_false_are_no_numbers(self):
        for wrong in (True, False):
            self.assertIs(refusal(moved, RING_WEB, (2, 0, 1), wrong, 0), NoNumber)
            self.assertIs(refusal(moved, RING_WEB, (2, 0, 1), 0, wrong), NoNumber)
        self.assertIs(refusal(moved, RING_WEB, (2, 0, True), 0, 0), NoRow)
        self.assertIs(refusal(moved, RING_WEB, (2, False, 1), 0, 0), NoRow)
        self.assertIs(refusal(moved, (True, ()), (0,), 0, 0), NoWeb)

    def test_wrong_webs(self):
        for web in wrong_webs():
            self.assertIs(refusal(moved, web, (0, 1, 2), 0, 0), NoWeb)

    def test_wrong_rows(self):
        for row in wrong_rows():
            self.assertIs(refusal(moved, RING_WEB, row, 0, 0), NoRow)

    def test_which_is_refused_first(self):
        wrong_numbers = ((3, 0), (0, 3), (-1, 0), (True, 0), (0, None), ("0", "0"), (None, None))
        for thing, place in wrong_numbers:
            self.assertIs(refusal(moved, RING_WEB, (0, 1, 2), thing, place), NoNumber)
            for row in NAMED_WRONG_ROWS:
                self.assertIs(refusal(moved, RING_WEB, row, thing, place), NoRow)
        for web in NAMED_WRONG_WEBS:
            for row in ((0, 1, 2), None, (0, 0, 1), [0, 1, 2]):
                for thing, place in wrong_numbers + ((0, 0),):
                    self.assertIs(refusal(moved, web, row, thing, place), NoWeb)


class Settled(unittest.TestCase):
    def check(self, web, row):
        self.assertIs(is_settled(web, row), plain_best_move(web, row) is None, (web, row))

    def test_by_hand(self):
        self.assertIs(is_settled(RING_WEB, (0, 1, 2)), True)
        self.assertIs(is_settled(RING_WEB, (1, 2, 0)), False)
        self.assertIs(is_settled((2, ((0, 1, 1),)), (0, 1)), True)
        self.assertIs(is_settled((2, ((0, 1, 1),)), (1, 0)), False)
        self.assertIs(is_settled((2, ((0, 1, 7), (1, 0, 7))), (1, 0)), True)
        self.assertIs(is_settled(TIES, TIES_ROW), False)

    def test_a_settled_row_that_is_not_best(self):
        self.assertIs(is_settled(STUCK, STUCK_ROW), True)
        self.assertEqual(plain_weight(STUCK, STUCK_ROW), 1)
        self.assertEqual(least(STUCK)[0], 0)

    def test_no_arrows(self):
        for many in range(1, 8):
            for row in few_rows(many):
                self.assertIs(is_settled((many, ()), row), True)

    def test_best_rows_are_settled(self):
        for web in drawn_webs(7, 1):
            self.assertIs(is_settled(web, least(web)[1]), True)

    def test_only_a_move_of_several_places_helps(self):
        # 0 is to go from the last place to the first; a place or two less would change nothing, or make it worse.
        web = (4, ((0, 1, 9), (2, 0, 1), (3, 0, 1)))
        self.assertEqual(plain_weight(web, (1, 2, 3, 0)), 9)
        self.assertIs(is_settled(web, (1, 2, 3, 0)), False)
        self.assertEqual(better(web, (1, 2, 3, 0))[1], (2, 3, 0, 1))

    def test_all_rows_of_small_webs(self):
        for many in (1, 2, 3):
            for web in all_webs(many):
                for row in rows_of(many):
                    self.check(web, row)

    def test_webs_of_all_sizes_and_weights(self):
        for web in drawn_webs(7, 1):
            for row in few_rows(web[0])[::3]:
                self.check(web, row)

    def test_wrong_webs(self):
        for web in wrong_webs():
            self.assertIs(refusal(is_settled, web, (0, 1, 2)), NoWeb)

    def test_wrong_rows(self):
        for row in wrong_rows():
            self.assertIs(refusal(is_settled, RING_WEB, row), NoRow)

    def test_the_web_is_refused_first(self):
        for web in NAMED_WRONG_WEBS:
            for row in NAMED_WRONG_ROWS[::4]:
                self.assertIs(refusal(is_settled, web, row), NoWeb)


class Better(unittest.TestCase):
    def check(self, web, row):
        told = better(web, row)
        self.assertEqual(kinds(told), kinds(plain_better(web, row)), (web, row))
        self.assertEqual(told[0], row)
        self.assertIs(is_settled(web, told[-1]), True)
        weights = [plain_weight(web, one) for one in told]
        self.assertEqual(weights, sorted(set(weights), reverse=True))
        self.assertGreaterEqual(weights[-1], least(web)[0])

    def test_by_hand(self):
        self.assertEqual(kinds(better(RING_WEB, (0, 1, 2))), kinds([(0, 1, 2)]))
        self.assertEqual(kinds(better(RING_WEB, (1, 2, 0))), kinds([(1, 2, 0), (0, 1, 2)]))
        self.assertEqual(kinds(better((1, ()), (0,))), kinds([(0,)]))
        self.assertEqual(kinds(better((2, ((1, 0, 1),)), (0, 1))), kinds([(0, 1), (1, 0)]))

    def test_a_settled_row_stays(self):
        self.assertEqual(better(STUCK, STUCK_ROW), [STUCK_ROW])
        for many in range(1, 8):
            for row in few_rows(many):
                self.assertEqual(better((many, ()), row), [row])

    def test_of_several_moves_the_least_thing_then_the_least_place(self):
        self.assertEqual(better(TIES, TIES_ROW), [TIES_ROW, (3, 1, 0, 2), (2, 3, 1, 0)])
        # 2 may go to any place behind 0: the least one it is.
        self.assertEqual(better((4, ((0, 2, 1),)), (2, 0, 1, 3)), [(2, 0, 1, 3), (0, 2, 1, 3)])
        self.assertEqual(better((4, ((0, 2, 1),)), (2, 1, 3, 0)), [(2, 1, 3, 0), (0, 2, 1, 3)])
        self.assertEqual(better((4, ((1, 0, 1),)), (0, 2, 3, 1)), [(0, 2, 3, 1), (2, 3, 1, 0)])

    def test_the_best_move_not_the_first_that_helps(self):
        web = (3, ((1, 0, 1), (2, 1, 9)))
        self.assertEqual(better(web, (0, 1, 2)), [(0, 1, 2), (0, 2, 1), (2, 1, 0)])

    def test_all_rows_of_small_webs(self):
        for many in (1, 2, 3):
            for web in all_webs(many):
                for row in rows_of(many):
                    self.check(web, row)

    def test_webs_of_all_sizes_and_weights(self):
        for web in list(drawn_webs(7, 1)) + list(some_webs()):
            for row in few_rows(web[0])[::5]:
                self.check(web, row)

    def test_a_free_web(self):
        for many in range(1, 8):
            web = web_of(many, [(a, b) for a, b in pairs(many) if a > b])
            self.check(web, tuple(range(many)))
            self.assertEqual(better(web, tuple(range(many)))[-1], tuple(reversed(range(many))))

    def test_wrong_webs(self):
        for web in wrong_webs():
            self.assertIs(refusal(better, web, (0, 1, 2)), NoWeb)

    def test_wrong_rows(self):
        for row in wrong_rows():
            self.assertIs(refusal(better, RING_WEB, row), NoRow)

    def test_rows_of_other_webs(self):
        for many in range(1, 8):
            for call in (better, is_settled):
                self.assertIs(refusal(call, full(many), tuple(range(many + 1))), NoRow)
                self.assertIs(refusal(call, full(many), tuple(range(many - 1))), NoRow)

    def test_the_web_is_refused_first(self):
        for web in NAMED_WRONG_WEBS:
            for row in NAMED_WRONG_ROWS[::4]:
                self.assertIs(refusal(better, web, row), NoWeb)


class HalfOfAllArrows(unittest.TestCase):
    def test_one_of_a_row_and_the_row_turned_about(self):
        for web in drawn_webs(7, 1):
            total = sum(arrow[2] for arrow in web[1])
            for row in few_rows(web[0]):
                both = (plain_weight(web, row), plain_weight(web, row[::-1]))
                self.assertEqual(sum(both), total)
                self.assertLessEqual(2 * min(both), total)
                self.assertLessEqual(2 * least(web)[0], total)


class NothingKept(unittest.TestCase):
    def test_what_is_handed_in_is_unchanged(self):
        for web in some_webs():
            row = tuple(reversed(range(web[0])))
            before = copy.deepcopy((web, row))
            moved(web, row, 0, 0)
            is_settled(web, row)
            better(web, row)
            self.assertEqual(kinds((web, row)), kinds(before))

    def test_what_is_refused_is_unchanged(self):
        web = [3, [[2, 0, 3], [0, 1, 5]]]
        row = [2, 0, 1]
        for wrong, error in ((web, NoWeb), ((3, web[1]), NoWeb), (RING_WEB, NoRow)):
            self.assertIs(refusal(moved, wrong, row, [0], [0]), error)
            self.assertIs(refusal(is_settled, wrong, row), error)
            self.assertIs(refusal(better, wrong, row), error)
        self.assertEqual(web, [3, [[2, 0, 3], [0, 1, 5]]])
        self.assertEqual(row, [2, 0, 1])

    def test_a_list_that_was_told_is_new_each_time(self):
        for web in (RING_WEB, full(5), (3, ()), full(7)):
            row = tuple(reversed(range(web[0])))
            told = better(web, row)
            expected = copy.deepcopy(told)
            told.append(None)
            told[0] = "row"
            self.assertEqual(better(web, row), expected)

    def test_equal_things_give_equal_answers(self):
        for web in some_webs():
            again = (web[0], tuple(tuple(list(arrow)) for arrow in web[1]))
            row = tuple(reversed(range(web[0])))
            same = tuple(list(row))
            self.assertEqual(better(again, same), better(web, row))
            self.assertEqual(is_settled(again, same), is_settled(web, row))
            self.assertEqual(moved(again, same, 0, 0), moved(web, row, 0, 0))


if __name__ == "__main__":
    unittest.main()
