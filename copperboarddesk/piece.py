"""A piece of copper, whether two of them touch, and how far apart their skeletons are."""

from copperboarddesk.plane import above_root
from copperboarddesk.plane import box_around
from copperboarddesk.plane import boxes_meet
from copperboarddesk.plane import boxes_square
from copperboarddesk.plane import grown_box
from copperboarddesk.plane import less_square
from copperboarddesk.plane import lesser_square
from copperboarddesk.plane import point_square
from copperboarddesk.plane import segments_near
from copperboarddesk.plane import turn
from copperboarddesk.skeleton import sides_of


class Piece:
    def __init__(self, net, first, last, radius, points):
        self.net = net
        self.first = first
        self.last = last
        self.radius = radius
        self.place(points)

    # Boxes and sides are worked out once here, as they are asked for very often. Each side
    # is its two ends and then the four ends of its box.
    def place(self, points):
        self.points = points
        self.box = box_around(points)
        self.sides = [(a, b) + box_around((a, b)) for a, b in sides_of(points)]


# Counts the sides that a ray from the point to the right crosses. What it says of a
# point on a side is of no matter, since such a point is found near that side.
def encloses(piece, point):
    if len(piece.points) < 3:
        return False
    inside = False
    for a, b in sides_of(piece.points):
        upwards = b[1] > point[1]
        if (a[1] > point[1]) != upwards and (turn(a, b, point) > 0) == upwards:
            inside = not inside
    return inside


# Far sides are left out by their boxes, as the exact test of two sides costs more.
def sides_near_box(sides, box, distance):
    left = box[0] - distance
    low = box[1] - distance
    right = box[2] + distance
    high = box[3] + distance
    return [
        side for side in sides
        if side[2] <= right and left <= side[4] and side[3] <= high and low <= side[5]
    ]


def some_sides_near(piece, other, distance):
    limit = (distance * distance, 1)
    others = sides_near_box(other.sides, piece.box, distance)
    for side in sides_near_box(piece.sides, other.box, distance):
        for opposite in sides_near_box(others, side[2:], distance):
            if segments_near(side[0], side[1], opposite[0], opposite[1], limit):
                return True
    return False


def boxes_near(piece, other, distance):
    return boxes_meet(grown_box(piece.box, distance), other.box)


# Skeletons whose sides have no point in common either lie wholly apart or one lies
# wholly within the other, so one point of each is enough to tell.
def skeletons_near(piece, other, distance):
    if not boxes_near(piece, other, distance):
        return False
    if encloses(piece, other.points[0]) or encloses(other, piece.points[0]):
        return True
    return some_sides_near(piece, other, distance)


def share_layer(piece, other):
    return piece.first <= other.last and other.first <= piece.last


def pieces_touch(piece, other):
    return share_layer(piece, other) and skeletons_near(piece, other, piece.radius + other.radius)


# Each side behind the square of the distance of its box from the given one.
def nearest_first(sides, box):
    return sorted([(boxes_square(side[2:], box), side) for side in sides])


# The square of the least distance of two skeletons that have no point in common. The sides
# that face each other come first, so that most of the others are soon known to lie farther
# apart than the least found so far, by their boxes alone.
def gap_square(piece, other):
    least = point_square(piece.points[0], other.points[0], other.points[0])
    opposites = [side for square, side in nearest_first(other.sides, piece.box)]
    for square, side in nearest_first(piece.sides, other.box):
        if not less_square(square, least):
            break
        for opposite in sides_near_box(opposites, side[2:], above_root(least)):
            if less_square(boxes_square(side[2:], opposite[2:]), least):
                least = lesser_square(side[0], side[1], opposite[0], opposite[1], least)
    return least
