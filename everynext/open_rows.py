"""Charts that are told in part: rows in which some places have no next place yet."""

# What stands for the next place of a place as long as none is chosen.
OPEN = -1


def halt(row, place, number):
    """Where so many steps lead from the place as far as the row is told, and how many of them are left there."""
    passed = [place]
    while len(passed) <= number:
        following = row[passed[-1]]
        if following == OPEN:
            return passed[-1], number + 1 - len(passed)
        if following in passed:
            begin = passed.index(following)
            return passed[begin + (number - begin) % (len(passed) - begin)], 0
        passed.append(following)
    return passed[number], 0


def depth_in(row, place):
    """The depth of a place whose way is told."""
    passed = [place]
    while row[passed[-1]] not in passed:
        passed.append(row[passed[-1]])
    return passed.index(row[passed[-1]])


def opened(begun, length):
    """The row of so many places that begins so and is open from there on."""
    return begun + (OPEN,) * (length - len(begun))
