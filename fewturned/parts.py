"""Parts of a web, which can be done each for itself."""

from fewturned.errors import NoNumber
from fewturned.rings import followers
from fewturned.webs import checked, is_number


def reached_from(following, first):
    reached = {first: True}
    waiting = [first]
    while waiting:
        thing = waiting.pop()
        for other in following[thing]:
            if other not in reached:
                reached[other] = True
                waiting.append(other)
    return reached


def part_of(reached, thing):
    return [other for other in range(len(reached)) if other in reached[thing] and thing in reached[other]]


def parts(web):
    checked(web)
    following = followers(web[0], web[1])
    reached = [reached_from(following, thing) for thing in range(web[0])]
    found = []
    for thing in range(web[0]):
        part = part_of(reached, thing)
        # A part is met once for each of its things, and is told at its least one.
        if part[0] == thing:
            found.append(part)
    return found


def part_web(web, number):
    every = parts(web)
    if not is_number(number, 0, len(every) - 1):
        raise NoNumber("this is no part's number")
    part = every[number]
    inner = [arrow for arrow in web[1] if arrow[0] in part and arrow[1] in part]
    # The part rises, so arrows that rise do so by the new numbers too.
    return (len(part), tuple([(part.index(ahead), part.index(behind), load) for ahead, behind, load in inner]))
