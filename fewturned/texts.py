"""Webs written as texts, and read back."""

from fewturned.errors import NoText
from fewturned.webs import MOST_WEIGHT, checked, is_web

FIRST_WORD = "things"


def shown(web):
    checked(web)
    many = web[0]
    lines = [f"{FIRST_WORD}{many}\n"]
    for ahead, behind, load in web[1]:
        lines.append(f"{ahead}>{behind}*{load}\n")
    return "".join(lines)


def number_in(text):
    # Looked up among the written numbers: signs, blanks, zeros ahead and other digits are none of these.
    written = [str(number) for number in range(MOST_WEIGHT + 1)]
    if text not in written:
        raise NoText("this is no number as it is written here")
    return written.index(text)


def arrow_in(line):
    ends = line.partition(">")
    rest = ends[2].partition("*")
    return (number_in(ends[0]), number_in(rest[0]), number_in(rest[2]))


def read(text):
    if not isinstance(text, str):
        raise NoText("this is no text")
    lines = text.split("\n")
    if lines[-1] != "":
        raise NoText("the last line is not ended")
    if not lines[0].startswith(FIRST_WORD):
        raise NoText("the first line does not tell how many things there are")
    many = number_in(lines[0][len(FIRST_WORD):])
    web = (many, tuple([arrow_in(line) for line in lines[1:-1]]))
    if not is_web(web):
        raise NoText("this text tells no web")
    return web
