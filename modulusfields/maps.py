"""Reckoning with maps of rests that take sums to sums, told by what they make of some sources.

A pair is a tuple of a source, a polynomial, and of what the map makes of it, a rest. A table is a dict of such
pairs by the length of what is made, its last number 1: so two of them never have the same length.
Nothing here is checked. Each function returns new lists.
"""

from modulusfields.polynomials import added, difference, number_opposite, scaled


def told_by(p, pairs):
    """Return the table of a map told by pairs, and the sums of sources of which it makes nought.

    The sums are as few as tell all others. The last source in each of them stands in it once, and in no other one.
    """
    table = {}
    noughts = []
    for source, made in pairs:
        rest_source, rest_made = _lessened(p, table, source, made)
        if rest_made == []:
            noughts.append(rest_source)
        else:
            number = number_opposite(p, rest_made[-1])
            table[len(rest_made)] = (scaled(p, rest_source, number), scaled(p, rest_made, number))
    return table, noughts


def source_of(p, table, wanted):
    """Return a sum of sources of which the map of a table makes a rest, or None if there is none."""
    source, left = _lessened(p, table, [], wanted)
    return difference(p, [], source) if left == [] else None


def sums_of(p, some):
    """Return all sums of polynomials, each times a number, in order: no two are the same if `some` are apart."""
    found = [[]]
    for one in some:
        multiples = [[]] + [scaled(p, one, number) for number in range(1, p)]
        found = [added(p, item, part) for item in found for part in multiples]
    return sorted(found)


def _lessened(p, table, source, made):
    """Return a pair without multiples of pairs of a table, as long as these make what is made shorter."""
    left_source, left = source, made
    while len(left) in table:
        other_source, other = table[len(left)]
        number = left[-1]
        left_source = difference(p, left_source, scaled(p, other_source, number))
        left = difference(p, left, scaled(p, other, number))
    return left_source, left
