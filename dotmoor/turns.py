"""Turns: the order of spots round a spot, and on which side of a step a place lies."""


def around(spot, others):
    """Spots in unlike directions in the order in which one meets them turning to the left round a spot."""
    far = max([abs(x - spot[0]) + abs(y - spot[1]) for x, y in others], default=0)
    return sorted(others, key=lambda other: direction(other[0] - spot[0], other[1] - spot[1], far * far))


def direction(right, upward, fine):
    """A pair that rises as the way (right, upward) turns to the left, from the direction of growing x on.

    Unlike shares of numbers up to far differ by 1 in far * far parts at least: so fine, they stay unlike.
    """
    share = right * fine // (abs(right) + abs(upward))
    return (1, share) if upward < 0 else (0, -share)


def side(one, other, place):
    """A number above nought where the place lies left of the line from one spot to the other, below it right."""
    (x, x_under), (y, y_under) = place
    ahead_x, ahead_y = (other[0] - one[0]) * x_under, (other[1] - one[1]) * y_under
    # Multiplied by both unders, which are above 0, so that no part has to be made.
    return ahead_x * (y - one[1] * y_under) - ahead_y * (x - one[0] * x_under)


def lies_on(one, other, place):
    """True where the place lies on the straight line between two spots, or at one of them."""
    (x, x_under), (y, y_under) = place
    if not min(one[0], other[0]) * x_under <= x <= max(one[0], other[0]) * x_under:
        return False
    if not min(one[1], other[1]) * y_under <= y <= max(one[1], other[1]) * y_under:
        return False
    return side(one, other, place) == 0


def crossing(one, other, place):
    """1 where the step crosses the straight line from the place towards growing x upward, -1 downward, 0 else.

    The lower spot of a step belongs to it and the upper one does not, and a place on a step is taken to lie beside it
    towards lesser x: so steps are met just as they are from a little higher up and a little further that way.
    """
    over, under = place[1]
    if one[1] * under <= over < other[1] * under:
        return 1 if side(one, other, place) >= 0 else 0
    if other[1] * under <= over < one[1] * under:
        return -1 if side(one, other, place) <= 0 else 0
    return 0
