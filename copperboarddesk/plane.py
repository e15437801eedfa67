"""Exact tests on points, segments and upright boxes of the plane.

A point is a tuple (x, y), a box a tuple (left, low, right, high). Distances are
compared by their squares, so every number stays whole.
"""


# Above 0 where c lies to the left of the way from a to b, 0 on the line through them.
def turn(a, b, c):
    return (b[0] - a[0]) * (c[1] - a[1]) - (b[1] - a[1]) * (c[0] - a[0])


def box_around(points):
    across = [point[0] for point in points]
    upwards = [point[1] for point in points]
    return (min(across), min(upwards), max(across), max(upwards))


def grown_box(box, by):
    return (box[0] - by, box[1] - by, box[2] + by, box[3] + by)


def boxes_meet(box, other):
    return box[0] <= other[2] and other[0] <= box[2] and box[1] <= other[3] and other[1] <= box[3]


def strictly_one_side(first, second):
    return (first > 0 and second > 0) or (first < 0 and second < 0)


# Where neither segment lies wholly beside the other one's line they meet, unless all
# four ends are on one line: only then the boxes are needed to tell them apart.
def segments_meet(a, b, c, d):
    if strictly_one_side(turn(a, b, c), turn(a, b, d)):
        return False
    if strictly_one_side(turn(c, d, a), turn(c, d, b)):
        return False
    return boxes_meet(box_around((a, b)), box_around((c, d)))


# Whether p is at most the root of limit away from the segment from a to b.
def point_near(p, a, b, limit):
    across = b[0] - a[0]
    upwards = b[1] - a[1]
    x = p[0] - a[0]
    y = p[1] - a[1]
    along = x * across + y * upwards
    if along <= 0:
        return x * x + y * y <= limit
    length = across * across + upwards * upwards
    if along >= length:
        x = p[0] - b[0]
        y = p[1] - b[1]
        return x * x + y * y <= limit
    beside = across * y - upwards * x
    return beside * beside <= limit * length


# Whether c and d lie on one side of the line through a and b, both farther from it
# than the root of limit.
def far_beside(a, b, c, d, limit):
    across = b[0] - a[0]
    upwards = b[1] - a[1]
    first = across * (c[1] - a[1]) - upwards * (c[0] - a[0])
    second = across * (d[1] - a[1]) - upwards * (d[0] - a[0])
    if not strictly_one_side(first, second):
        return False
    nearest = min(abs(first), abs(second))
    return nearest * nearest > limit * (across * across + upwards * upwards)


# Most pairs that are asked about lie far beside each other, and that is told soonest.
# Segments that don't meet are nearest to each other at one of the four ends.
def segments_near(a, b, c, d, limit):
    if far_beside(a, b, c, d, limit) or far_beside(c, d, a, b, limit):
        return False
    if segments_meet(a, b, c, d):
        return True
    if point_near(a, c, d, limit) or point_near(b, c, d, limit):
        return True
    return point_near(c, a, b, limit) or point_near(d, a, b, limit)
