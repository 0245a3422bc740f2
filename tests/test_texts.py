import copy
import re
import unittest

from fewturned.errors import NoText, NoWeb
from fewturned.texts import read, shown
from samples import RING_WEB, all_webs, drawn_webs, full, junk, kinds, plain_is_web, refusal, some_webs, wrong_webs

WRITTEN = "things3\n0>1*5\n1>2*7\n2>0*3\n"


def plain_shown(web):
    lines = ["things%d" % web[0]] + ["%d>%d*%d" % arrow for arrow in web[1]]
    return "".join(line + "\n" for line in lines)


def plain_read(thing):
    """The web that a thing of any kind tells, None if it is no text of a web."""
    number = "(0|[1-9][0-9]*)"
    if type(thing) is not str or not re.fullmatch(f"things{number}\n({number}>{number}[*]{number}\n)*", thing):
        return None
    found = [[int(one) for one in re.findall("[0-9]+", line)] for line in thing[:-1].split("\n")]
    web = (found[0][0], tuple(tuple(arrow) for arrow in found[1:]))
    return web if plain_is_web(web) else None


class Shown(unittest.TestCase):
    def test_by_hand(self):
        self.assertEqual(kinds(shown(RING_WEB)), kinds(WRITTEN))
        self.assertEqual(shown((7, ((0, 6, 99), (6, 0, 10)))), "things7\n0>6*99\n6>0*10\n")

    def test_no_arrows(self):
        for many in range(1, 8):
            self.assertEqual(shown((many, ())), f"things{many}\n")

    def test_every_weight(self):
        for load in range(1, 100):
            self.assertEqual(shown((2, ((1, 0, load),))), f"things2\n1>0*{load}\n")

    def test_webs_of_all_sizes(self):
        for web in list(some_webs()) + list(drawn_webs(7, 2)) + list(all_webs(3)):
            self.assertEqual(kinds(shown(web)), kinds(plain_shown(web)))

    def test_unlike_webs_are_written_unlike(self):
        webs = set(list(some_webs()) + list(drawn_webs(7, 2)) + list(all_webs(3)))
        self.assertEqual(len({shown(web) for web in webs}), len(webs))

    def test_wrong_webs(self):
        for web in wrong_webs():
            self.assertIs(refusal(shown, web), NoWeb)


class Read(unittest.TestCase):
    def check(self, thing):
        expected = plain_read(thing)
        if expected is None:
            self.assertIs(refusal(read, thing), NoText, repr(thing))
        else:
            self.assertEqual(kinds(read(thing)), kinds(expected))

    def test_by_hand(self):
        self.assertEqual(kinds(read(WRITTEN)), kinds(RING_WEB))
        self.assertEqual(kinds(read("things1\n")), kinds((1, ())))
        self.assertEqual(kinds(read("things7\n0>6*99\n6>0*10\n")), kinds((7, ((0, 6, 99), (6, 0, 10)))))

    def test_no_arrows(self):
        for many in range(-2, 120):
            expected = None if 1 <= many <= 7 else NoText
            self.assertIs(refusal(read, f"things{many}\n"), expected, many)

    def test_every_weight(self):
        for load in range(-2, 120):
            expected = None if 1 <= load <= 99 else NoText
            self.assertIs(refusal(read, f"things2\n1>0*{load}\n"), expected, load)

    def test_things_of_an_arrow(self):
        for many in range(1, 8):
            for ahead in range(-1, 9):
                for behind in range(-1, 9):
                    self.check(f"things{many}\n{ahead}>{behind}*5\n")

    def test_what_is_written_is_read_back(self):
        for web in list(some_webs()) + list(drawn_webs(7, 2)) + list(all_webs(3)):
            self.assertEqual(kinds(read(shown(web))), kinds(web))
            self.assertEqual(shown(read(shown(web))), shown(web))

    def test_line_ends(self):
        for text in (WRITTEN[:-1], "things3", "things3\n0>1*5", "", "\n", "\n\n", WRITTEN + "\n", "\n" + WRITTEN,
                     WRITTEN.replace("\n", "\n\n"), WRITTEN.replace("\n", "\r\n"), WRITTEN.replace("\n", "\r"),
                     WRITTEN[:-1] + "\r\n", WRITTEN[:-1] + "\r", "things3\r\n", "things3\r", "things3\n\n",
                     "things3\0\n", "things3\n\n0>1*5\n", "things3\n0>1*5\n\n", "things3 \n", "things3\n0>1*5;1>2*7\n"):
            self.assertIs(refusal(read, text), NoText, repr(text))
        for end in ("\r", "\v", "\f", "\x1c", "\x1d", "\x1e", "\x85", "\u2028", "\u2029", "\n\r", "\t", "\\n", " ", ""):
            for place in [place for place, sign in enumerate(WRITTEN) if sign == "\n"]:
                text = WRITTEN[:place] + end + WRITTEN[place + 1:]
                self.assertIs(refusal(read, text), NoText, repr(text))

    def test_a_line_too_many(self):
        for line in ("things3", "2>0*3", "0>1*5", "2>1", "2", ">", "*", ">*", " ", "#", "end", "2>0", "*1", "2>2*1",
                     "2>3*1", "2>1*0", "2>1*100", "2>1*1*1", "2>1>1*1", "2*1>1"):
            self.assertIs(refusal(read, WRITTEN + line + "\n"), NoText, line)
        self.assertEqual(read(WRITTEN + "2>1*1\n"), (3, RING_WEB[1] + ((2, 1, 1),)))

    def test_the_first_line(self):
        for line in ("", "3", "things", "thing3", "Things3", "THINGS3", "things 3", " things3", "things3 ", "things\t3",
                     "things+3", "things-3", "things03", "things3.0", "things3 things", "things0", "things8",
                     "things33", "things3,", "things:3", "things=3", "thingsthree", "things\u0663", "things\uff13",
                     "things3\u00a0", "things1_0", "things0x3", "thingsTrue", "thingsNone", "things(3)", "things\u00b3",
                     "\ufeffthings3", "0>1*5", "thingsthings3", "3things"):
            self.assertIs(refusal(read, line + "\n"), NoText, repr(line))
            self.assertIs(refusal(read, line + "\n0>1*5\n"), NoText, repr(line))
        self.assertIs(refusal(read, "0>1*5\nthings3\n"), NoText)

    def test_numbers_of_an_arrow(self):
        for wrong in ("", " ", "+{}", "-{}", "0{}", "00{}", " {}", "{} ", "{}.0", "{}_", "_{}", "\t{}", "{}\t", "{}\r",
                      "0x{}", "({})", "{}j", "'{}'", "\u00a0{}", "{}\u200b", "{}\0"):
            self.assertIs(refusal(read, "things3\n" + wrong.format(0) + ">1*5\n"), NoText, wrong)
            self.assertIs(refusal(read, "things3\n0>" + wrong.format(1) + "*5\n"), NoText, wrong)
            self.assertIs(refusal(read, "things3\n0>1*" + wrong.format(5) + "\n"), NoText, wrong)
        self.assertIs(refusal(read, "things3\n0>1*1_0\n"), NoText)
        self.assertIs(refusal(read, "things3\n-0>1*5\n"), NoText)

    def test_digits_of_other_scripts(self):
        for zero in ("\u0660", "\u06f0", "\u0966", "\uff10", "\U0001d7ce"):
            others = {str(digit): chr(ord(zero) + digit) for digit in range(10)}
            for place, sign in enumerate(WRITTEN):
                if sign in others:
                    text = WRITTEN[:place] + others[sign] + WRITTEN[place + 1:]
                    self.assertEqual(int(text[place]), int(sign))
                    self.assertIs(refusal(read, text), NoText, repr(text))
        for sign in ("\u00b2", "\u00b3", "\u2460", "\u00bd", "\u2162", "\u4e09"):
            self.assertIs(refusal(read, f"things{sign}\n"), NoText)
            self.assertIs(refusal(read, f"things3\n0>1*{sign}\n"), NoText)

    def test_great_numbers(self):
        for number in ("9" * 20, "9" * 5000, "1" + "0" * 10000, "0" * 5000 + "3", "0" * 5000):
            for text in (f"things{number}\n", f"things3\n{number}>1*5\n", f"things3\n0>{number}*5\n",
                         f"things3\n0>1*{number}\n"):
                self.assertIs(refusal(read, text), NoText)

    def test_arrows_that_fall_or_come_twice(self):
        for lines in (("1>2*7", "0>1*5"), ("0>2*1", "0>1*1"), ("0>1*5", "0>1*5"), ("0>1*5", "0>1*6"),
                      ("0>1*6", "0>1*5"), ("0>1*5", "2>0*1", "1>2*1"), ("0>0*5",), ("0>1*5", "1>1*5")):
            self.assertIs(refusal(read, "things3\n" + "".join(line + "\n" for line in lines)), NoText, lines)

    def test_other_signs_between(self):
        for line in ("0<1*5", "0-1*5", "0->1*5", "0>1x5", "0>1:5", "0>1**5", "0>>1*5", "0>1 5", "0 1 5", "0,1,5",
                     "0*1>5", "0>1>5", "0*1*5", "0>1", "0>1*", "0*5", ">1*5", "0>*5", ">*", "0>15", "01*5", "015",
                     "0 > 1 * 5", "0> 1*5", "0>1 *5", "0>1* 5", " 0>1*5", "0>1*5 ", "(0, 1, 5)", "0\uff1e1*5"):
            self.assertIs(refusal(read, f"things3\n{line}\n"), NoText, line)

    def test_every_sign_changed_put_in_or_taken_out(self):
        for text in (WRITTEN, "things1\n", "things7\n0>6*99\n6>0*10\n"):
            for place in range(len(text) + 1):
                self.check(text[:place])
                self.check(text[place:])
                self.check(text[:place] + text[place + 1:])
                for sign in "0123456789>*\nthings +-_.,\r\t\0\u0663\uff11":
                    self.check(text[:place] + sign + text[place:])
                    self.check(text[:place] + sign + text[place + 1:])

    def test_lines_exchanged_left_out_and_doubled(self):
        for web in (full(3), full(4), RING_WEB):
            lines = shown(web).splitlines(keepends=True)
            for place, line in enumerate(lines):
                self.check("".join(lines[:place] + lines[place + 1:]))
                self.check("".join(lines[:place] + [line, line] + lines[place + 1:]))
                for other in range(place):
                    changed = list(lines)
                    changed[place], changed[other] = changed[other], changed[place]
                    self.check("".join(changed))

    def test_things_of_any_kind(self):
        for thing in junk() + [RING_WEB, WRITTEN.encode(), bytearray(WRITTEN.encode()), [WRITTEN], (WRITTEN,),
                               WRITTEN.splitlines(), list(WRITTEN), {WRITTEN: WRITTEN}, "\ud800", "things\ud8003\n"]:
            self.assertIs(refusal(read, thing), NoText)


class NothingKept(unittest.TestCase):
    def test_what_is_handed_in_is_unchanged(self):
        for web in some_webs():
            before = copy.deepcopy(web)
            shown(web)
            self.assertEqual(kinds(web), kinds(before))
        web = [3, [[2, 0, 3], [0, 1, 5]]]
        self.assertIs(refusal(shown, web), NoWeb)
        self.assertIs(refusal(shown, (3, web[1])), NoWeb)
        self.assertIs(refusal(read, web), NoText)
        self.assertEqual(web, [3, [[2, 0, 3], [0, 1, 5]]])

    def test_equal_things_give_equal_answers(self):
        for web in some_webs():
            again = (web[0], tuple(tuple(list(arrow)) for arrow in web[1]))
            self.assertEqual(shown(again), shown(web))
            text = "".join(list(shown(web)))
            self.assertEqual(kinds(read(text)), kinds(read(text)))
            self.assertEqual(read(text), web)


if __name__ == "__main__":
    unittest.main()
