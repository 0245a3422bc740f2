import copy
import unittest

from fewturned.errors import NoArrows, NoNumber
from fewturned.kept import kept, row_behind
from samples import Draws, is_whole, junk, kinds, pairs, plain_around, plain_is_free, refusal, spoiled


def plain_are_coming(many, thing):
    if type(thing) is not list or len(thing) > 60:
        return False
    for arrow in thing:
        if type(arrow) is not tuple or len(arrow) != 2 or not all(map(is_whole, arrow)) or arrow not in pairs(many):
            return False
    return True


def led_to(taken, first):
    """The things to which one leads by arrows taken, itself too."""
    reached = {first}
    for again in taken:
        reached |= {behind for ahead, behind in taken if ahead in reached}
    return reached


def plain_row(row, taken, ahead, behind):
    """The row behind an arrow that is taken and does not lead on in it."""
    low, high = row.index(behind), row.index(ahead)
    after = [thing for thing in row if thing in led_to(taken, behind) and row.index(thing) <= high]
    before = [thing for thing in row if ahead in led_to(taken, thing) and row.index(thing) >= low]
    coming = iter(before + after)
    return tuple(next(coming) if thing in before + after else thing for thing in row)


def drawn_arrows(draws, many, length, kind):
    """Arrows that come by lot: of any kind, back alone, or from few things alone."""
    every = pairs(many)
    if kind == 1:
        every = [(a, b) for a, b in every if a > b]
    if kind == 2:
        every = [(a, b) for a, b in every if (a + b) % 3]
    if kind == 3:
        # Mostly one way by another order of the things, so that few rings come.
        order = sorted(range(many), key=lambda thing: thing * 5 % 13)
        every = [(a, b) for a, b in every if order.index(a) < order.index(b) or draws.below(9) == 0]
    return [every[draws.below(len(every))] for again in range(length)] if every else []


def drawn_lists():
    draws = Draws(71)
    for many in range(1, 13):
        for length in (0, 1, 2, 5, 13, 30, 59, 60):
            for kind in range(4):
                yield many, drawn_arrows(draws, many, length, kind)


class Kept(unittest.TestCase):
    def check(self, many, arrows):
        told = kept(many, arrows)
        self.assertIs(type(told), list)
        self.assertEqual(len(told), len(arrows))
        row, taken = tuple(range(many)), []
        for (ahead, behind), does in zip(arrows, told):
            if row.index(ahead) < row.index(behind):
                self.assertEqual(kinds(does), kinds(("fits",)))
                taken.append((ahead, behind))
            elif ahead in led_to(taken, behind):
                self.check_ring(taken, ahead, behind, does)
            else:
                row = plain_row(row, taken, ahead, behind)
                self.assertEqual(kinds(does), kinds(("moved", row)))
                taken.append((ahead, behind))
            for one, other in taken:
                self.assertLess(row.index(one), row.index(other))
        self.assertEqual(kinds(row_behind(many, arrows)), kinds(row))
        return told

    def check_ring(self, taken, ahead, behind, does):
        self.assertIs(type(does), tuple)
        self.assertEqual(len(does), 2)
        self.assertEqual(does[0], "ring")
        ring = does[1]
        self.assertIs(type(ring), list)
        self.assertTrue(all(map(is_whole, ring)))
        self.assertEqual(ring[:2], [ahead, behind])
        self.assertEqual(len(set(ring)), len(ring))
        for step in plain_around(ring)[1:]:
            self.assertIn(step, taken)

    def test_by_hand(self):
        arrows = [(0, 1), (2, 1), (1, 0), (1, 2), (3, 0), (2, 3), (1, 3), (0, 2)]
        expected = [("fits",), ("moved", (0, 2, 1, 3)), ("ring", [1, 0]), ("ring", [1, 2]), ("moved", (3, 2, 0, 1)),
                    ("moved", (2, 3, 0, 1)), ("ring", [1, 3, 0]), ("ring", [0, 2, 3])]
        self.assertEqual(kinds(self.check(4, arrows)), kinds(expected))
        self.assertEqual(kinds(row_behind(4, arrows)), kinds((2, 3, 0, 1)))

    def test_no_arrows(self):
        for many in range(1, 13):
            self.assertEqual(kinds(kept(many, [])), kinds([]))
            self.assertEqual(kinds(row_behind(many, [])), kinds(tuple(range(many))))

    def test_one_arrow(self):
        for many in range(2, 13):
            for ahead, behind in pairs(many):
                told = self.check(many, [(ahead, behind)])
                if ahead < behind:
                    self.assertEqual(told, [("fits",)])
                else:
                    # The two change places: between them nothing leads to or from either.
                    row = list(range(many))
                    row[behind], row[ahead] = ahead, behind
                    self.assertEqual(told, [("moved", tuple(row))])

    def test_two_arrows_of_four_things(self):
        for one in pairs(4):
            for other in pairs(4):
                self.check(4, [one, other])

    def test_three_arrows_of_three_things(self):
        for one in pairs(3):
            for other in pairs(3):
                for third in pairs(3):
                    self.check(3, [one, other, third])

    def test_an_arrow_that_fits_is_taken(self):
        self.assertEqual(kept(2, [(0, 1), (1, 0)]), [("fits",), ("ring", [1, 0])])
        self.assertEqual(kept(3, [(0, 1), (1, 2), (2, 0)]), [("fits",), ("fits",), ("ring", [2, 0, 1])])

    def test_an_arrow_that_moves_is_taken(self):
        self.assertEqual(kept(2, [(1, 0), (0, 1)]), [("moved", (1, 0)), ("ring", [0, 1])])

    def test_an_arrow_that_closes_a_ring_is_not_taken(self):
        arrows = [(0, 1), (1, 2), (2, 0), (0, 2), (3, 2), (0, 3)]
        told = self.check(4, arrows)
        self.assertEqual(told[2], ("ring", [2, 0, 1]))
        # Were the third one taken, 3 would lead to 0, and the last one close a ring.
        self.assertEqual(told[3:], [("fits",), ("moved", (0, 1, 3, 2)), ("fits",)])

    def test_the_same_arrow_again(self):
        self.assertEqual(kept(2, [(0, 1), (0, 1)]), [("fits",), ("fits",)])
        self.assertEqual(kept(2, [(1, 0), (1, 0)]), [("moved", (1, 0)), ("fits",)])
        self.assertEqual(kept(2, [(0, 1), (1, 0), (1, 0)]), [("fits",), ("ring", [1, 0]), ("ring", [1, 0])])

    def test_only_those_between_the_two_places_are_moved(self):
        # 1 leads to 5, beyond the place of 3; 0 leads to 3, but stands ahead of 1.
        self.assertEqual(self.check(6, [(1, 5), (0, 3), (3, 1)])[2], ("moved", (0, 3, 2, 1, 4, 5)))
        # Of 1 and 2, and of 3 and 4, the first leads to the second; others between the two places stay.
        self.assertEqual(self.check(6, [(1, 2), (4, 1)])[1], ("moved", (0, 4, 1, 3, 2, 5)))
        self.assertEqual(self.check(6, [(3, 4), (4, 1)])[1], ("moved", (0, 3, 2, 4, 1, 5)))
        self.assertEqual(self.check(6, [(1, 2), (3, 4), (4, 1)])[2], ("moved", (0, 3, 4, 1, 2, 5)))
        self.assertEqual(self.check(7, [(1, 3), (2, 5), (5, 1)])[2], ("moved", (0, 2, 5, 1, 4, 3, 6)))

    def test_leading_goes_by_several_arrows(self):
        arrows = [(0, 1), (1, 2), (2, 3), (4, 5), (5, 6), (6, 7), (7, 0)]
        self.assertEqual(self.check(8, arrows)[-1], ("moved", (4, 5, 6, 7, 0, 1, 2, 3)))
        arrows = [(0, 1), (1, 2), (2, 3), (3, 4), (4, 5), (5, 6), (6, 7), (7, 0)]
        self.assertEqual(self.check(8, arrows)[-1], ("ring", [7, 0, 1, 2, 3, 4, 5, 6]))

    def test_those_moved_keep_their_order_till_now(self):
        # By the row, not by number nor by how they are met.
        arrows = [(2, 1), (0, 1), (0, 2), (5, 4), (5, 3), (4, 3), (3, 0)]
        told = self.check(6, arrows)
        self.assertEqual(told[-1], ("moved", (5, 4, 3, 0, 2, 1)))

    def test_arrows_that_come_by_lot(self):
        met = set()
        for many, arrows in drawn_lists():
            met |= {(does[0], many) for does in self.check(many, arrows)}
        for word in ("fits", "ring", "moved"):
            for many in range(2, 13):
                self.assertIn((word, many), met)

    def test_all_back(self):
        for many in range(1, 13):
            back = [(a, a - 1) for a in range(1, many)]
            for arrows in (back, back[::-1]):
                self.check(many, arrows)
                self.assertEqual(row_behind(many, arrows), tuple(reversed(range(many))))
        every = [(a, b) for a, b in pairs(11) if a > b]
        self.check(11, every)
        self.assertEqual(row_behind(11, every), tuple(reversed(range(11))))

    def test_just_the_arrows_that_close_rings_are_left_out(self):
        for many, arrows in drawn_lists():
            taken = []
            for arrow, does in zip(arrows, kept(many, arrows)):
                web = (many, tuple(sorted((a, b, 1) for a, b in set(taken + [arrow]))))
                self.assertEqual(does[0] != "ring", plain_is_free(web))
                if does[0] != "ring":
                    taken.append(arrow)

    def test_what_comes_later_changes_nothing_of_what_was_told(self):
        for many, arrows in drawn_lists():
            told = kept(many, arrows)
            for length in range(0, len(arrows), 7):
                self.assertEqual(kept(many, arrows[:length]), told[:length])
            rows = [does[1] for does in told if does[0] == "moved"]
            self.assertEqual(row_behind(many, arrows), ([tuple(range(many))] + rows)[-1])


class Refused(unittest.TestCase):
    def both(self, many, arrows, expected):
        self.assertIs(refusal(kept, many, arrows), expected)
        self.assertIs(refusal(row_behind, many, arrows), expected)

    def test_one_thing_and_twelve(self):
        for many in range(-3, 20):
            self.both(many, [], None if 1 <= many <= 12 else NoNumber)

    def test_numbers_of_any_kind(self):
        for many in junk():
            expected = None if is_whole(many) and 1 <= many <= 12 else NoNumber
            self.both(many, [], expected)

    def test_true_and_false_are_no_numbers(self):
        for wrong in (True, False):
            self.both(wrong, [], NoNumber)
            self.both(3, [(wrong, 2)], NoArrows)
            self.both(3, [(2, wrong)], NoArrows)

    def test_sixty_arrows_and_one_more(self):
        for many, arrow in ((2, (0, 1)), (2, (1, 0)), (12, (11, 0))):
            self.both(many, [arrow] * 60, None)
            self.both(many, [arrow] * 61, NoArrows)
            self.both(many, [arrow] * 1000, NoArrows)

    def test_things_that_there_are_not(self):
        for many in range(1, 13):
            for ahead in range(-2, 15):
                for behind in range(-2, 15):
                    expected = None if (ahead, behind) in pairs(many) else NoArrows
                    self.both(many, [(ahead, behind)], expected)

    def test_named_wrong_arrows(self):
        for arrows in (None, 0, True, "", "01", (), ((0, 1),), {}, {0: 1}, {(0, 1): True}, set(), [()], [None], [0],
                       [0, 1], ["01"], [[0, 1]], [{0: 1}], [(0,)], [(0, 1, 2)], [(0, 1, 1)], [((0, 1),)], [(0, 0)],
                       [(0, 3)], [(3, 0)], [(-1, 0)], [(0, -1)], [(0, None)], [(None, 0)], [("0", "1")], [(0, "1")],
                       [(0, 1.0)], [(0.0, 1)], [([0], 1)], [(0, [1])], [(0, (1,))], [(0, 1), None], [(0, 1), [1, 2]],
                       [None, (0, 1)], [(0, 1), (1, 0), (2, 2)], [(0, 1), (1, 0), (1, 2, 0)]):
            self.both(3, arrows, NoArrows)

    def test_things_of_any_kind(self):
        for thing in junk():
            self.both(3, thing, None if plain_are_coming(3, thing) else NoArrows)
            self.both(3, [thing], None if plain_are_coming(3, [thing]) else NoArrows)

    def test_spoiled_arrows(self):
        for thing in spoiled([(0, 1), (2, 1), (1, 0)]):
            self.both(3, thing, None if plain_are_coming(3, thing) else NoArrows)

    def test_the_number_is_refused_first(self):
        for many in (0, 13, -1, True, False, None, "3", 3.0, [3], (3,), {}):
            for arrows in (None, (), [None], [(0, 0)], [(0, 1)] * 61, [(0, 1)], [(0, 20)], "", {}):
                self.both(many, arrows, NoNumber)

    def test_a_wrong_arrow_is_refused_wherever_it_stands(self):
        for place in range(60):
            arrows = [(0, 1)] * 60
            arrows[place] = (1, 1)
            self.both(2, arrows, NoArrows)


class NothingKept(unittest.TestCase):
    def test_what_is_handed_in_is_unchanged(self):
        for many, arrows in drawn_lists():
            before = copy.deepcopy(arrows)
            kept(many, arrows)
            row_behind(many, arrows)
            self.assertEqual(kinds(arrows), kinds(before))

    def test_what_is_refused_is_unchanged(self):
        arrows = [(1, 0), [0, 1], (0, 1, [])]
        before = copy.deepcopy(arrows)
        for call in (kept, row_behind):
            self.assertIs(refusal(call, 3, arrows), NoArrows)
            self.assertIs(refusal(call, 0, arrows), NoNumber)
        self.assertEqual(arrows, before)

    def test_a_list_that_was_told_is_new_each_time(self):
        for many, arrows in drawn_lists():
            told = kept(many, arrows)
            expected = copy.deepcopy(told)
            for does in told:
                if does[0] == "ring":
                    does[1].append("more")
            told.append(None)
            self.assertEqual(kept(many, arrows), expected)

    def test_no_two_rings_told_are_one_list(self):
        told = kept(4, [(0, 1), (1, 2)] + [(2, 0)] * 20)
        self.assertEqual(len({id(does[1]) for does in told[2:]}), 20)

    def test_arrows_changed_behind_the_call_change_nothing(self):
        arrows = [(1, 0), (0, 1), (2, 1)]
        told = kept(3, arrows)
        expected = copy.deepcopy(told)
        arrows.clear()
        self.assertEqual(told, expected)
        self.assertEqual(kept(3, [(0, 1)]), [("fits",)])

    def test_equal_things_give_equal_answers(self):
        for many, arrows in drawn_lists():
            again = [tuple(list(arrow)) for arrow in arrows]
            self.assertEqual(kept(many, again), kept(many, arrows))
            self.assertEqual(row_behind(many, again), row_behind(many, arrows))


if __name__ == "__main__":
    unittest.main()
