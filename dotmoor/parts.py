"""Parts: fractions as pairs (over, under) in lowest terms, under 1 or more."""

from dotmoor.errors import BadPart


def common_measure(one, other):
    """The greatest number that measures both, of numbers that are not below 0."""
    while other != 0:
        one, other = other, one % other
    return one


def lowest(over, under=1):
    """The part that over and under make; BadPart where under is 0."""
    if under == 0:
        raise BadPart()
    if under < 0:
        over, under = -over, -under
    measure = common_measure(abs(over), under)
    return (over // measure, under // measure)


def plus(one, other):
    """The sum of two parts."""
    return lowest(one[0] * other[1] + other[0] * one[1], one[1] * other[1])


def less(one, other):
    """The one part less the other one."""
    return lowest(one[0] * other[1] - other[0] * one[1], one[1] * other[1])


def times(one, other):
    """The product of two parts."""
    return lowest(one[0] * other[0], one[1] * other[1])


def below(one, other):
    """True where the one part is below the other one."""
    # Each under is above 0, so that multiplying by both keeps the order.
    return one[0] * other[1] < other[0] * one[1]


def nearest(one):
    """The whole number in whose stretch the part lies: a half below it does, a half above it doesn't."""
    # Rounding (one and a half) down is what sends an exact half upward, below nought too.
    return (2 * one[0] + one[1]) // (2 * one[1])
