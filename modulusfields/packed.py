"""Reckoning with rows by a prime, fast enough for long ones.

A rest by the prime is packed into one whole number: the number at the place `k` stands in the bits from
`k * WIDTH` on. So the product of two whole numbers holds the product of both rests, and sums of such products
are sums of whole numbers: there is room for thousands of them before the numbers at the places run into each
other. `settled` makes a packed rest of such a sum. In a packed row, a list, the last item is not 0.

A field is a dict: `p`, the `prime`, its `power`, and as packed rests `t`, that of `T`, `folds`, those of `T ** k`
for each `k` from the power on that a product can reach, and `raised`, those of `T ** (k * p)` below the power.
Nothing here is checked. Each function returns new lists.
"""

from modulusfields.polynomials import opposite_by, power_by, remainder, trimmed

WIDTH = 20
# The bits of one place.
MASK = 1048575


def field_of(p, prime):
    """Return the field of the rests by a prime."""
    power = len(prime) - 1
    folds = [pack(remainder(p, [0] * place + [1], prime)) for place in range(power, 2 * power - 1)]
    raised = [pack(power_by(p, prime, [0] * place + [1], p)) for place in range(power)]
    t = pack(remainder(p, [0, 1], prime))
    return {"p": p, "prime": prime, "power": power, "t": t, "folds": folds, "raised": raised}


def pack(rest):
    """Return a rest as a whole number."""
    found = 0
    for number in reversed(rest):
        found = (found << WIDTH) + number
    return found


def unpack(packed):
    """Return the rest that is packed into a whole number."""
    rest = []
    left = packed
    while left > 0:
        rest.append(left & MASK)
        left = left >> WIDTH
    return rest


def pack_row(row):
    """Return a row, its items rests by a prime, as a packed row."""
    return [pack(rest) for rest in row]


def unpack_row(packed):
    """Return the row that is packed."""
    return [unpack(item) for item in packed]


def settled(field, heap):
    """Return the packed rest of a sum of products of packed rests."""
    p, power = field["p"], field["power"]
    # What stands from the power of the prime on is folded down to the places below it. Only these count from then on.
    reached = heap
    left = heap >> (power * WIDTH)
    for fold in field["folds"]:
        reached += (left & MASK) % p * fold
        left = left >> WIDTH
    found = 0
    for place in range(power):
        found += (((reached >> (place * WIDTH)) & MASK) % p) << (place * WIDTH)
    return found


def raised_to_p(field, packed):
    """Return a packed rest taken `p` times as a factor: each `T ** k` by itself, as this keeps sums."""
    found = 0
    left = packed
    for power in field["raised"]:
        found += (left & MASK) * power
        left = left >> WIDTH
    return settled(field, found)


def packed_opposite(field, packed):
    """Return the packed rest whose product with one that is not nought is 1."""
    return pack(opposite_by(field["p"], field["prime"], unpack(packed)))


def scaled_row(field, row, packed):
    """Return the items of a packed row times a packed rest: all of them nought if this is."""
    return [settled(field, item * packed) for item in row]


def row_total(field, rows):
    """Return the sum of packed rows."""
    sums = [0] * max([len(row) for row in rows])
    for row in rows:
        for place, item in enumerate(row):
            sums[place] += item
    return trimmed([settled(field, item) for item in sums])


def row_times(field, one, other):
    """Return the product of two packed rows."""
    return trimmed([settled(field, item) for item in _row_sums(one, other)])


def row_left(field, row, monic):
    """Return what is left of a list of packed rests, or of sums of products of such, by a monic packed row."""
    left = list(row)
    power = len(monic) - 1
    minus = field["p"] - 1
    taken = [(place, settled(field, monic[place] * minus)) for place in range(power) if monic[place] != 0]
    while len(left) > power:
        head = settled(field, left.pop())
        start = len(left) - power
        if head != 0:
            for place, item in taken:
                left[start + place] += head * item
    return trimmed([settled(field, item) for item in left])


def row_times_left(field, monic, one, other):
    """Return what is left of the product of two packed rows by a monic packed row."""
    return row_left(field, _row_sums(one, other), monic)


def row_raised_left(field, monic, row):
    """Return what is left, by a monic packed row, of a packed row taken `p` times as a factor."""
    p = field["p"]
    apart = [0] * ((len(row) - 1) * p + 1)
    for place, item in enumerate(row):
        apart[place * p] = raised_to_p(field, item)
    return row_left(field, apart, monic)


def row_value_left(field, monic, row, put):
    """Return what is left, by a monic packed row, of a packed row with another one in the place of `X`."""
    found = []
    for item in reversed(row):
        found = row_times_left(field, monic, found, put)
        found = row_total(field, [found, [item]])
    return found


def common_row(field, monic, other):
    """Return the greatest monic common factor of two packed rows, the first one monic."""
    ahead, now = monic, other
    while now != []:
        now = scaled_row(field, now, packed_opposite(field, now[-1]))
        ahead, now = now, row_left(field, ahead, now)
    return ahead


def _row_sums(one, other):
    """Return the sums of products of packed rests that are the items of the product of two packed rows."""
    sums = [0] * (len(one) + len(other))
    for place, item in enumerate(one):
        if item != 0:
            end = place + len(other)
            sums[place:end] = [found + item * further for found, further in zip(sums[place:end], other)]
    return sums
