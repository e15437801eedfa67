"""Skeletons: one point is a spot, two are a bar, three and more a simple polygon."""

from copperboarddesk.plane import segments_meet
from copperboarddesk.plane import turn


# A spot has one side, from its point to itself, so that it needs no case of its own.
def sides_of(points):
    if len(points) == 2:
        return [(points[0], points[1])]
    return list(zip(points, points[1:] + points[:1]))


# Alike points count as turning back: their side has no direction to go on in.
def turns_back(a, b, c):
    if turn(a, b, c) != 0:
        return False
    return (b[0] - a[0]) * (c[0] - b[0]) + (b[1] - a[1]) * (c[1] - b[1]) <= 0


def some_corner_turns_back(corners):
    for k in range(len(corners)):
        if turns_back(corners[k - 2], corners[k - 1], corners[k]):
            return True
    return False


def some_sides_apart_meet(corners):
    sides = sides_of(corners)
    last = len(sides) - 1
    for i in range(len(sides)):
        for j in range(i + 2, len(sides)):
            # The last side is followed by the first one.
            if i == 0 and j == last:
                continue
            if segments_meet(sides[i][0], sides[i][1], sides[j][0], sides[j][1]):
                return True
    return False


def is_skeleton(points):
    if len(points) == 1:
        return True
    if len(points) == 2:
        return points[0] != points[1]
    return not some_corner_turns_back(points) and not some_sides_apart_meet(points)


def low_then_left(point):
    return (point[1], point[0])


# Above 0 for corners that go counter-clockwise.
def double_area(corners):
    return sum([a[0] * b[1] - a[1] * b[0] for a, b in sides_of(corners)])


# A copy of a skeleton's points in the order in which they are kept and answered.
def in_form(points):
    if len(points) < 3:
        return sorted(points, key=low_then_left)
    corners = list(points)
    if double_area(corners) < 0:
        corners = list(reversed(corners))
    start = corners.index(min(corners, key=low_then_left))
    return corners[start:] + corners[:start]
