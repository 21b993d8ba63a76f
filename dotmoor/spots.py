"""Spots: pairs (x, y) of whole numbers within bounds."""

FAR = 40


def is_spot(spot):
    """True where both numbers of the pair lie from -FAR to FAR."""
    x, y = spot
    return abs(x) <= FAR and abs(y) <= FAR


def sign(number):
    """1, 0 or -1, as the number is above, at or below nought."""
    if number > 0:
        return 1
    if number < 0:
        return -1
    return 0


def turning(one, two, three):
    """1 where the way from one by two to three turns to the left, -1 to the right, 0 where it does neither."""
    first_x, first_y = two[0] - one[0], two[1] - one[1]
    then_x, then_y = three[0] - two[0], three[1] - two[1]
    # The area that the two steps span has the sign of the turn, for left is from x towards y.
    return sign(first_x * then_y - first_y * then_x)
