"""How the tests write calls down and read answers, and distances worked out another way."""

import unittest
from fractions import Fraction

from copperboarddesk.desk import answers

FAR = 1000000000
HUGE = 10 ** 18

SPOT = [(0, 0)]
BAR = [(-10, 0), (10, 0)]
SQUARE = [(-10, -10), (10, -10), (10, 10), (-10, 10)]
# Open to the top: the notch from x -5 to 5 goes down to y -5.
CUP = [(-10, -10), (10, -10), (10, 10), (5, 10), (5, -5), (-5, -5), (-5, 10), (-10, 10)]


# Each row: two skeletons, the whole distance between them, and one step by which the
# second one goes farther away (None where no step does).
AT_DISTANCE = (
    ("spot, spot, level", SPOT, [(7, 0)], 7, (1, 0)),
    ("spot, spot, upright", SPOT, [(0, -7)], 7, (0, -1)),
    ("spot, spot, slanting", SPOT, [(3, 4)], 5, (0, 1)),
    ("spot, bar, beside it", BAR, [(3, 6)], 6, (0, 1)),
    ("spot, bar, beyond its end", BAR, [(13, 4)], 5, (1, 0)),
    ("spot, bar, beyond its beginning", BAR, [(-13, -4)], 5, (0, -1)),
    ("spot, slanting bar", [(0, 0), (40, 30)], [(14, 23)], 10, (-1, 1)),
    ("spot, polygon, beside a side", SQUARE, [(2, 15)], 5, (0, 1)),
    ("spot, polygon, beyond a corner", SQUARE, [(-13, -14)], 5, (-1, 0)),
    ("spot, polygon, in the notch", CUP, [(0, 3)], 5, None),
    ("bar, bar, side by side", BAR, [(-3, 4), (5, 4)], 4, (0, 1)),
    ("bar, bar, end to end", BAR, [(13, 4), (30, 40)], 5, (0, 1)),
    ("bar, bar, upper end to upper end", [(0, 0), (5, 5)], [(20, 0), (10, 5)], 5, (1, 0)),
    ("bar, bar, upper ends, slanting", [(0, 0), (5, 5)], [(20, 0), (8, 9)], 5, (1, 0)),
    ("bar, bar, lower end to lower end", [(5, 5), (-20, 6)], [(8, 9), (8, 30)], 5, (0, 1)),
    ("bar, bar, upright on one line", [(0, 0), (0, 5)], [(0, 9), (0, 11)], 4, (0, 1)),
    ("bar, bar, short ones", [(0, 0), (1, 0)], [(0, 1), (1, 1)], 1, (0, 1)),
    ("bar, bar, end to side", BAR, [(2, 3), (9, 20)], 3, (0, 1)),
    ("bar, bar, side to end", [(2, 3), (9, 20)], BAR, 3, (0, -1)),
    ("bar, bar, on one line", BAR, [(14, 0), (20, 0)], 4, (1, 0)),
    ("bar, bar, crosswise apart", BAR, [(0, 2), (0, 9)], 2, (0, 1)),
    ("bar, slanting bars", [(0, 0), (40, 30)], [(-6, 8), (34, 38)], 10, (-1, 1)),
    ("bar, polygon, side by side", SQUARE, [(12, -50), (12, 50)], 2, (1, 0)),
    ("bar, polygon, end to side", SQUARE, [(0, 14), (3, 90)], 4, (0, 1)),
    ("bar, polygon, corner to side", SQUARE, [(1, 23), (25, 5)], 5, (1, 1)),
    ("bar, polygon, in the notch", CUP, [(0, -2), (0, 60)], 3, None),
    ("polygon, polygon, side by side", SQUARE, [(14, 0), (30, 0), (30, 5)], 4, (1, 0)),
    ("polygon, polygon, corner to corner", SQUARE, [(13, 14), (30, 14), (13, 30)], 5, (1, 0)),
    ("polygon, polygon, corner to side", SQUARE, [(0, 13), (5, 30), (-5, 30)], 3, (0, 1)),
    ("polygon, polygon, in the notch", CUP, [(0, -1), (1, 9), (-1, 9)], 4, None),
)


def begin(layers):
    return [0, layers]


def add(points, net=0, first=1, last=1, r=0):
    return add_numbers([c for point in points for c in point], net, first, last, r)


def add_numbers(numbers, net=0, first=1, last=1, r=0):
    return [1, net, first, last, r, len(numbers)] + list(numbers)


def remove(i):
    return [2, i]


def label(i, net):
    return [3, i, net]


def move(i, dx, dy):
    return [4, i, dx, dy]


def piece(i):
    return [5, i]


def touching(i):
    return [6, i]


def joined(i, j):
    return [7, i, j]


def members(i):
    return [8, i]


def parts():
    return [9]


def chain(i, j):
    return [10, i, j]


def reach(i, k):
    return [11, i, k]


def shorts():
    return [12]


def opens():
    return [13]


def loose():
    return [14]


def cuts():
    return [15]


def needed(i, j):
    return [16, i, j]


def point(layer, x, y):
    return [17, layer, x, y]


def levels(i):
    return [18, i]


def near(c):
    return [19, c]


def nets():
    return [20]


def clean():
    return [21]


def all_pieces():
    return [22]


# Spots on a line: place k touches k - 1 and k + 1 and no other.
def row(places, told=None):
    told = told or [0] * len(places)
    return [add([(2 * place, 0)], net=net, r=1) for place, net in zip(places, told)]


# Upright bars on layer 1 cross level bars on layer 2; each link is a barrel through both.
def grid(links, uprights, crossing):
    calls = []
    for i in range(uprights):
        calls.append(add([(10 * i, 0), (10 * i, 1000)], first=1, last=1))
    for j in range(crossing):
        calls.append(add([(-5, 10 * j + 5), (2000, 10 * j + 5)], first=2, last=2))
    for i, j in links:
        calls.append(add([(10 * i, 10 * j + 5)], first=1, last=2))
    return calls


def flat(calls):
    return [number for call in calls for number in call]


def split(told):
    found = []
    at = 0
    while at < len(told):
        count = told[at]
        found.append(told[at + 1:at + 1 + count])
        at += 1 + count
    assert at == len(told), "the last answer is shorter than its count"
    return found


def ask(calls):
    assert len(calls) <= 180, "a line has at most 180 calls"
    found = split(answers(flat(calls)))
    assert len(found) == len(calls), "each call has one answer"
    return found


def last(calls):
    return ask(calls)[-1]


# Everything the calls can tell of a small board, its number of layers too.
def questions(pieces):
    asked = [parts(), all_pieces(), shorts(), opens(), loose(), cuts(), near(1), near(90), near(FAR), nets(),
             clean(), point(1, 0, 0), point(2, 5, 5)]
    for i in range(pieces + 2):
        asked += [piece(i), touching(i), members(i), levels(i), reach(i, 1), chain(0, i), needed(0, i)]
    for layers in range(1, 18):
        asked.append(add([(0, 0)], first=layers, last=layers))
    return asked


# The square of the least distance as a fraction, worked out otherwise than in the program.
def square_from_point(p, a, b):
    ux, uy = b[0] - a[0], b[1] - a[1]
    length = ux * ux + uy * uy
    t = Fraction(0)
    if length != 0:
        t = min(max(Fraction((p[0] - a[0]) * ux + (p[1] - a[1]) * uy, length), 0), 1)
    x, y = a[0] + t * ux - p[0], a[1] + t * uy - p[1]
    return x * x + y * y


def cross(a, b, c, d):
    ux, uy, vx, vy = b[0] - a[0], b[1] - a[1], d[0] - c[0], d[1] - c[1]
    bottom = ux * vy - uy * vx
    if bottom == 0:
        return False
    s = Fraction((c[0] - a[0]) * vy - (c[1] - a[1]) * vx, bottom)
    t = Fraction((c[0] - a[0]) * uy - (c[1] - a[1]) * ux, bottom)
    return 0 <= s <= 1 and 0 <= t <= 1


def sides(points):
    if len(points) == 2:
        return [tuple(points)]
    return [(points[k - 1], points[k]) for k in range(len(points))]


# Winding number: how often the sides go round the point.
def winds_round(points, p):
    count = 0
    for a, b in sides(points):
        side = (b[0] - a[0]) * (p[1] - a[1]) - (b[1] - a[1]) * (p[0] - a[0])
        if a[1] <= p[1] < b[1] and side > 0:
            count += 1
        if b[1] <= p[1] < a[1] and side < 0:
            count -= 1
    return count != 0


def least_square(one, other):
    if len(one) > 2 and any(winds_round(one, p) for p in other):
        return 0
    if len(other) > 2 and any(winds_round(other, p) for p in one):
        return 0
    found = []
    for a, b in sides(one):
        for c, d in sides(other):
            if cross(a, b, c, d):
                return 0
            found += [square_from_point(a, c, d), square_from_point(b, c, d),
                      square_from_point(c, a, b), square_from_point(d, a, b)]
    return min(found)


def some_skeleton(lot, size, counts):
    while True:
        count = lot.choice(counts)
        points = [(lot.randrange(-size, size + 1), lot.randrange(-size, size + 1)) for k in range(count)]
        if ask([add(points)]) == [[0]]:
            return points


class DeskCase(unittest.TestCase):
    def check_answers(self, calls, *expected):
        self.assertEqual(ask(calls)[-len(expected):], [list(answer) for answer in expected])

    # The answer is the refusal alone, and all that can be asked later is as without it.
    def check_refused(self, before, call, refusal, pieces=4):
        after = questions(pieces)
        found = ask(before + [call] + after)
        self.assertEqual(found[len(before)], [refusal], call)
        self.assertEqual(found[len(before) + 1:], ask(before + after)[len(before):], call)
