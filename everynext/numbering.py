"""Rows that stand in their sequence as tuples: the one with an index, and the index of one.

How many of the rows begin in a certain way is told by `ways`, a function that takes the beginning, a tuple.
"""


def nth_by_ways(length, ways, number):
    """Of the rows of so many entries, integers from 0 on, the one with this index, or None."""
    if number >= ways(()):
        return None
    begun = ()
    left = number
    for _ in range(length):
        entry = 0
        here = ways(begun + (0,))
        while left >= here:
            left = left - here
            entry = entry + 1
            here = ways(begun + (entry,))
        begun = begun + (entry,)
    return begun


def number_by_ways(row, ways):
    """The index of the row."""
    told = 0
    for index, entry in enumerate(row):
        told = told + sum([ways(row[:index] + (less,)) for less in range(entry)])
    return told
