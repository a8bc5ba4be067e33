"""Whole numbers, and exact fractions: tuples (top, bottom) in lowest terms, bottom above nought."""

NOUGHT = (0, 1)
ONE = (1, 1)


def is_whole(thing):
    """Whether it is an int that is no truth."""
    return isinstance(thing, int) and not isinstance(thing, bool)


def is_count(thing, most):
    """Whether it is a whole number from 1 to most."""
    return is_whole(thing) and 1 <= thing <= most


def is_rising(numbers):
    """Whether each of the whole numbers, or of the texts, is above the one ahead of it."""
    return all(low < high for low, high in zip(numbers, numbers[1:]))


def common(one, other):
    """The greatest whole number by which both can be divided."""
    while other != 0:
        one, other = other, one % other
    return abs(one)


def part(top, bottom):
    """The fraction top / bottom; bottom is not 0."""
    by = common(top, bottom)
    if bottom < 0:
        by = -by
    return (top // by, bottom // by)


def plus(one, other):
    """The sum of two fractions."""
    # The bottoms are held against one another ahead of the sum: so a long number is seldom divided by a long one.
    by = common(one[1], other[1])
    top = one[0] * (other[1] // by) + other[0] * (one[1] // by)
    more = common(top, by)
    return (top // more, (one[1] // by) * (other[1] // more))


def minus(one, other):
    """What is left of one fraction without the other one."""
    return plus(one, (-other[0], other[1]))


def times(one, other):
    """The product of two fractions."""
    falling = common(one[0], other[1])
    rising = common(other[0], one[1])
    return ((one[0] // falling) * (other[0] // rising), (one[1] // rising) * (other[1] // falling))


def over(one, other):
    """One fraction divided by the other one, which is not nought."""
    return times(one, part(other[1], other[0]))


def less(one, other):
    """Whether one fraction is less than the other one."""
    return one[0] * other[1] < other[0] * one[1]


def later(one, other):
    """The greater one of two fractions."""
    return other if less(one, other) else one


def earlier(one, other):
    """The less one of two fractions."""
    return one if less(one, other) else other


def ranks_of(times):
    """A whole number for each of the times, of the less one of two the less number, of None the greatest one."""
    there = [time for time in times if time is not None]
    bottom = max([time[1] for time in there], default=1)
    # Unlike fractions with bottoms up to this one are at least 1 / scale apart: so they have unlike whole parts if
    # each is taken scale times.
    scale = bottom * bottom
    told = {time: time[0] * scale // time[1] for time in there}
    told[None] = max([told[time] for time in there], default=0) + 1
    return told


def by_times(rows, many):
    """The rows sorted, of each the first so many things being times, None behind all."""
    ranks = ranks_of([time for row in rows for time in row[:many]])
    return sorted(rows, key=lambda row: ([ranks[time] for time in row[:many]], row[many:]))


def is_fraction(thing):
    """Whether it is a fraction, of anything."""
    if not isinstance(thing, tuple) or len(thing) != 2:
        return False
    top, bottom = thing
    if not is_whole(top) or not is_whole(bottom):
        return False
    return bottom > 0 and common(top, bottom) == 1


def is_from_nought(thing):
    """Whether it is a fraction from nought up, of anything."""
    return is_fraction(thing) and thing[0] >= 0


def is_above_nought(thing):
    """Whether it is a fraction above nought, of anything."""
    return is_fraction(thing) and thing[0] > 0
