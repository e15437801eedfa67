"""Exact tests on points, segments and upright boxes of the plane.

A point is a tuple (x, y), a box a tuple (left, low, right, high). Distances are
compared by their squares, so every number stays whole: a square is a tuple
(top, bottom), which stands for top divided by bottom.
"""


# Above 0 where c lies to the left of the way from a to b, 0 on the line through them.
def turn(a, b, c):
    return (b[0] - a[0]) * (c[1] - a[1]) - (b[1] - a[1]) * (c[0] - a[0])


def box_around(points):
    across = [point[0] for point in points]
    upwards = [point[1] for point in points]
    return (min(across), min(upwards), max(across), max(upwards))


def grown_box(box, by):
    return (box[0] - by, box[1] - by, box[2] + by, box[3] + by)


def boxes_meet(box, other):
    return box[0] <= other[2] and other[0] <= box[2] and box[1] <= other[3] and other[1] <= box[3]


# The square of the distance of two boxes.
def boxes_square(box, other):
    across = max(box[0] - other[2], other[0] - box[2], 0)
    upwards = max(box[1] - other[3], other[1] - box[3], 0)
    return (across * across + upwards * upwards, 1)


def strictly_one_side(first, second):
    return (first > 0 and second > 0) or (first < 0 and second < 0)


# Where neither segment lies wholly beside the other one's line they meet, unless all
# four ends are on one line: only then the boxes are needed to tell them apart.
def segments_meet(a, b, c, d):
    if strictly_one_side(turn(a, b, c), turn(a, b, d)):
        return False
    if strictly_one_side(turn(c, d, a), turn(c, d, b)):
        return False
    return boxes_meet(box_around((a, b)), box_around((c, d)))


def less_square(square, other):
    return square[0] * other[1] < other[0] * square[1]


# The square of the distance of p from the segment from a to b.
def point_square(p, a, b):
    across = b[0] - a[0]
    upwards = b[1] - a[1]
    x = p[0] - a[0]
    y = p[1] - a[1]
    along = x * across + y * upwards
    if along <= 0:
        return (x * x + y * y, 1)
    length = across * across + upwards * upwards
    if along >= length:
        x = p[0] - b[0]
        y = p[1] - b[1]
        return (x * x + y * y, 1)
    beside = across * y - upwards * x
    return (beside * beside, length)


# Whether c and d lie on one side of the line through a and b, both farther from it
# than the root of the square.
def far_beside(a, b, c, d, square):
    across = b[0] - a[0]
    upwards = b[1] - a[1]
    first = across * (c[1] - a[1]) - upwards * (c[0] - a[0])
    second = across * (d[1] - a[1]) - upwards * (d[0] - a[0])
    if not strictly_one_side(first, second):
        return False
    nearest = min(abs(first), abs(second))
    return nearest * nearest * square[1] > square[0] * (across * across + upwards * upwards)


# Most pairs that are asked about lie far beside each other, and that is told soonest.
def segments_far(a, b, c, d, square):
    return far_beside(a, b, c, d, square) or far_beside(c, d, a, b, square)


# Segments that don't meet are nearest to each other at one of the four ends.
def end_squares(a, b, c, d):
    return [point_square(a, c, d), point_square(b, c, d), point_square(c, a, b), point_square(d, a, b)]


# Whether two segments are at most the root of the square apart.
def segments_near(a, b, c, d, square):
    if segments_far(a, b, c, d, square):
        return False
    if segments_meet(a, b, c, d):
        return True
    return any([not less_square(square, found) for found in end_squares(a, b, c, d)])


# The square of the distance of two segments that don't meet, or the given square where
# that one is less.
def lesser_square(a, b, c, d, square):
    if segments_far(a, b, c, d, square):
        return square
    least = square
    for found in end_squares(a, b, c, d):
        if less_square(found, least):
            least = found
    return least


# A whole number above the root of the square, at most about twice as great.
def above_root(square):
    half = ((square[0] // square[1] + 1).bit_length() + 1) // 2
    return 1 << half
