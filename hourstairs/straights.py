"""Straights: what leads evenly from one point to another; points are pairs of fractions (x, y)."""

from hourstairs.fractions import fraction


def crosswise(one, other):
    """The first less the second, times what stands below in both: a whole number."""
    return one[0] * other[1] - other[0] * one[1]


def on_straight(near, far, x):
    """The y at x of the straight from near to far, whose x is above near's; x is between them."""
    (near_x, near_y), (far_x, far_y) = near, far
    # Whole numbers to the end: moments grow long, and so a divisor is looked for only once.
    done = crosswise(x, near_x) * far_x[1]
    left = crosswise(far_x, x) * near_x[1]
    above = near_y[0] * far_y[1] * left + far_y[0] * near_y[1] * done
    return fraction(above, near_y[1] * far_y[1] * (left + done))
