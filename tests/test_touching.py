"""What touches what: shapes near each other, within each other, on one layer or not."""

from fractions import Fraction
from random import Random

from tests.helper import FAR, HUGE, DeskCase, add, ask, begin, last, move, remove, touching

SPOT = [(0, 0)]
BAR = [(-10, 0), (10, 0)]
SQUARE = [(-10, -10), (10, -10), (10, 10), (-10, 10)]
# Open to the top: the notch from x -5 to 5 goes down to y -5.
CUP = [(-10, -10), (10, -10), (10, 10), (5, 10), (5, -5), (-5, -5), (-5, 10), (-10, 10)]


# Each row: two skeletons, the whole distance between them, and one step by which the
# second one goes farther away (None where no step does).
AT_DISTANCE = (
    ("spot, spot, level", SPOT, [(7, 0)], 7, (1, 0)),
    ("spot, spot, upright", SPOT, [(0, -7)], 7, (0, -1)),
    ("spot, spot, slanting", SPOT, [(3, 4)], 5, (0, 1)),
    ("spot, bar, beside it", BAR, [(3, 6)], 6, (0, 1)),
    ("spot, bar, beyond its end", BAR, [(13, 4)], 5, (1, 0)),
    ("spot, bar, beyond its beginning", BAR, [(-13, -4)], 5, (0, -1)),
    ("spot, slanting bar", [(0, 0), (40, 30)], [(14, 23)], 10, (-1, 1)),
    ("spot, polygon, beside a side", SQUARE, [(2, 15)], 5, (0, 1)),
    ("spot, polygon, beyond a corner", SQUARE, [(-13, -14)], 5, (-1, 0)),
    ("spot, polygon, in the notch", CUP, [(0, 3)], 5, None),
    ("bar, bar, side by side", BAR, [(-3, 4), (5, 4)], 4, (0, 1)),
    ("bar, bar, end to end", BAR, [(13, 4), (30, 40)], 5, (0, 1)),
    ("bar, bar, upper end to upper end", [(0, 0), (5, 5)], [(20, 0), (10, 5)], 5, (1, 0)),
    ("bar, bar, upper ends, slanting", [(0, 0), (5, 5)], [(20, 0), (8, 9)], 5, (1, 0)),
    ("bar, bar, lower end to lower end", [(5, 5), (-20, 6)], [(8, 9), (8, 30)], 5, (0, 1)),
    ("bar, bar, upright on one line", [(0, 0), (0, 5)], [(0, 9), (0, 11)], 4, (0, 1)),
    ("bar, bar, short ones", [(0, 0), (1, 0)], [(0, 1), (1, 1)], 1, (0, 1)),
    ("bar, bar, end to side", BAR, [(2, 3), (9, 20)], 3, (0, 1)),
    ("bar, bar, side to end", [(2, 3), (9, 20)], BAR, 3, (0, -1)),
    ("bar, bar, on one line", BAR, [(14, 0), (20, 0)], 4, (1, 0)),
    ("bar, bar, crosswise apart", BAR, [(0, 2), (0, 9)], 2, (0, 1)),
    ("bar, slanting bars", [(0, 0), (40, 30)], [(-6, 8), (34, 38)], 10, (-1, 1)),
    ("bar, polygon, side by side", SQUARE, [(12, -50), (12, 50)], 2, (1, 0)),
    ("bar, polygon, end to side", SQUARE, [(0, 14), (3, 90)], 4, (0, 1)),
    ("bar, polygon, corner to side", SQUARE, [(1, 23), (25, 5)], 5, (1, 1)),
    ("bar, polygon, in the notch", CUP, [(0, -2), (0, 60)], 3, None),
    ("polygon, polygon, side by side", SQUARE, [(14, 0), (30, 0), (30, 5)], 4, (1, 0)),
    ("polygon, polygon, corner to corner", SQUARE, [(13, 14), (30, 14), (13, 30)], 5, (1, 0)),
    ("polygon, polygon, corner to side", SQUARE, [(0, 13), (5, 30), (-5, 30)], 3, (0, 1)),
    ("polygon, polygon, in the notch", CUP, [(0, -1), (1, 9), (-1, 9)], 4, None),
)


def touch(one, r, other, s):
    return last([add(one, r=r), add(other, r=s), touching(0)]) == [1, 1]


class AtTheSumOfTheRadii(DeskCase):
    def test_at_it_and_just_below_it(self):
        for name, one, other, distance, away in AT_DISTANCE:
            for r in range(distance + 1):
                self.assertTrue(touch(one, r, other, distance - r), name)
                self.assertTrue(touch(other, r, one, distance - r), name)
                self.assertTrue(touch(one, r, other, distance - r + 1), name)
            for r in range(distance):
                self.assertFalse(touch(one, r, other, distance - 1 - r), name)
                self.assertFalse(touch(other, r, one, distance - 1 - r), name)

    def test_a_step_farther_away_and_back(self):
        for name, one, other, distance, away in AT_DISTANCE:
            if away is not None:
                found = ask([add(one, r=1), add(other, r=distance - 1), touching(0), touching(1),
                             move(1, away[0], away[1]), touching(0), touching(1),
                             move(1, -away[0], -away[1]), touching(0), touching(1)])
                self.assertEqual(found[2:], [[1, 1], [1, 0], [0], [0], [0], [0], [1, 1], [1, 0]], name)


class NearEachOthersLines(DeskCase):
    def test_each_bar_near_the_line_of_the_other_but_not_near_it(self):
        # The ends (10, 0) and (15, 9) are the nearest, a little more than 10 apart.
        one = [(0, 0), (10, 0)]
        other = [(9, 100), (15, 9)]
        for turned in (lambda x, y: (x, y), lambda x, y: (-x, y), lambda x, y: (x, -y), lambda x, y: (y, x),
                       lambda x, y: (-y, x), lambda x, y: (y, -x), lambda x, y: (-x, -y), lambda x, y: (-y, -x)):
            this = [turned(x, y) for x, y in one]
            that = [turned(x, y) for x, y in other]
            self.assertFalse(touch(this, 4, that, 6))
            self.assertFalse(touch(that, 4, this, 6))
            self.assertTrue(touch(this, 5, that, 6))


class WithRadius0(DeskCase):
    def test_a_common_point_is_enough(self):
        for one, other in (
            (SPOT, [(0, 0)]), (BAR, [(3, 0)]), (BAR, [(10, 0)]), (BAR, [(-10, 0)]),
            ([(0, 0), (6, 4)], [(3, 2)]), (SQUARE, [(10, 3)]), (SQUARE, [(10, 10)]), (SQUARE, [(0, 0)]),
            (BAR, [(0, -5), (0, 5)]), (BAR, [(10, 0), (12, 9)]), (BAR, [(4, 0), (4, 9)]), (BAR, [(10, 0), (20, 0)]),
            (BAR, [(-5, 0), (5, 0)]), (BAR, [(5, 0), (25, 0)]), (BAR, [(-10, 0), (10, 0)]),
            ([(0, 0), (6, 4)], [(3, 2), (9, 6)]), (SQUARE, [(-20, 0), (20, 0)]), (SQUARE, [(10, 0), (20, 0)]),
            (SQUARE, [(0, 20), (20, 0)]), (SQUARE, [(-20, 10), (20, 10)]), (SQUARE, [(-1, -1), (1, 2)]),
            (SQUARE, [(10, 10), (20, 10), (20, 20)]), (SQUARE, [(10, -3), (20, 0), (10, 3)]),
            (SQUARE, [(-20, -1), (20, -1), (20, 1), (-20, 1)]), (SQUARE, [(-3, -3), (3, -3), (0, 3)]),
            (SQUARE, SQUARE), (SQUARE, CUP), (CUP, [(-7, 0)]), (CUP, [(5, 0), (0, 0), (0, 5)]),
        ):
            self.assertTrue(touch(one, 0, other, 0), (one, other))
            self.assertTrue(touch(other, 0, one, 0), (one, other))

    def test_no_common_point(self):
        for one, other in (
            (SPOT, [(1, 0)]), (SPOT, [(0, -1)]), (BAR, [(0, 1)]), (BAR, [(11, 0)]), (BAR, [(-11, 0)]),
            ([(0, 0), (6, 5)], [(3, 2)]), (SQUARE, [(11, 0)]), (SQUARE, [(-11, -10)]), (SQUARE, [(0, 11)]),
            (BAR, [(0, 1), (0, 5)]), (BAR, [(11, 0), (20, 0)]), (BAR, [(-10, 1), (10, 1)]),
            ([(0, 0), (6, 4)], [(9, 6), (12, 8)]), ([(0, 0), (6, 4)], [(0, 1), (6, 5)]),
            ([(0, 0), (10, 0)], [(6, 4), (14, -2)]), ([(0, 0), (10, 0)], [(6, -4), (14, 2)]),
            ([(0, 0), (0, 10)], [(4, 6), (-2, 14)]), ([(0, 0), (0, 10)], [(-4, 6), (2, 14)]),
            (SQUARE, [(0, 21), (21, 0)]), (SQUARE, [(11, -9), (11, 9)]),
            (SQUARE, [(11, 10), (20, 10), (20, 20)]), (CUP, [(0, 0)]), (CUP, [(0, 10)]), (CUP, [(-4, 0), (4, 0)]),
            (CUP, [(-4, -4), (4, -4), (4, 9), (-4, 9)]), (CUP, [(0, -4), (0, 90)]), (CUP, [(4, -4)]),
        ):
            self.assertFalse(touch(one, 0, other, 0), (one, other))
            self.assertFalse(touch(other, 0, one, 0), (one, other))


class WithinOneAnother(DeskCase):
    def test_far_within_a_polygon(self):
        wide = [(-FAR, -FAR), (FAR, -FAR), (FAR, FAR), (-FAR, FAR)]
        for other in ([(1, 2)], [(0, 0), (5, 5)], [(0, 0), (9, 0), (0, 9)], [(-FAR, 5)], SQUARE):
            self.assertTrue(touch(wide, 0, other, 0))
            self.assertTrue(touch(other, 0, wide, 0))

    def test_within_a_round_rim(self):
        self.assertTrue(touch([(0, 0)], FAR, [(1, 1)], 0))
        self.assertTrue(touch([(0, 0), (5, 0)], 1000, SQUARE, 0))

    def test_within_the_arms_but_not_within(self):
        ring = [(0, 0), (90, 0), (90, 90), (46, 90), (46, 80), (80, 80), (80, 10), (10, 10), (10, 80),
                (44, 80), (44, 90), (0, 90)]
        self.assertFalse(touch(ring, 0, [(30, 30), (60, 30), (45, 60)], 0))
        self.assertFalse(touch(ring, 10, [(30, 30), (60, 30), (45, 60)], 9))
        self.assertTrue(touch(ring, 10, [(30, 30), (60, 30), (45, 60)], 10))
        self.assertTrue(touch(ring, 0, [(5, 5)], 0))

    def test_a_point_level_with_corners(self):
        # A ray through corners counts each of them right.
        diamond = [(0, -10), (10, 0), (0, 10), (-10, 0)]
        self.assertTrue(touch(diamond, 0, [(0, 0)], 0))
        self.assertFalse(touch(diamond, 0, [(-11, 0)], 0))
        self.assertFalse(touch(diamond, 0, [(-9, 10)], 0))
        self.assertFalse(touch(diamond, 0, [(-9, -10)], 0))
        saw = [(0, 0), (40, 0), (40, 10), (30, 5), (20, 10), (10, 5), (0, 10)]
        self.assertFalse(touch(saw, 0, [(-5, 5)], 0))
        self.assertFalse(touch(saw, 0, [(10, 9)], 0))
        self.assertFalse(touch(saw, 0, [(30, 10)], 0))
        self.assertTrue(touch(saw, 0, [(20, 5)], 0))
        self.assertTrue(touch(saw, 0, [(5, 5)], 0))


class Layers(DeskCase):
    def test_each_two_spans(self):
        spans = [(f, t) for f in range(1, 5) for t in range(f, 5)]
        for first, end in spans:
            for start, stop in spans:
                common = set(range(first, end + 1)) & set(range(start, stop + 1))
                found = last([begin(4), add(SQUARE, first=first, last=end),
                              add(SPOT, first=start, last=stop), touching(0)])
                self.assertEqual(found, [1, 1] if common else [0])

    def test_a_barrel_touches_on_its_last_layer(self):
        self.check_answers([begin(16), add(SPOT, first=1, last=16, r=3), add(BAR, first=16, last=16),
                            add(BAR, first=1, last=1), touching(0), touching(1)],
                           [2, 1, 2], [1, 0])


class Lists(DeskCase):
    def test_rising_and_without_itself(self):
        six = [add([(k, 0)], r=1) for k in (0, 2, 4, 1, 3, 9)]
        found = ask(six + [touching(i) for i in range(6)])[6:]
        self.assertEqual(found, [[2, 1, 3], [4, 0, 2, 3, 4], [2, 1, 4], [3, 0, 1, 4], [3, 1, 2, 3], [0]])

    def test_the_order_of_adding_does_not_matter(self):
        calls = [add([(k, 0)], r=1) for k in range(4)] + [remove(0), remove(2), add(SPOT, r=9), add(SPOT, r=9)]
        self.check_answers(calls + [touching(3), touching(0)], [3, 0, 1, 2], [3, 1, 2, 3])

    def test_refusals(self):
        for i in (-HUGE, -128, -1, 1, 127, 128, HUGE):
            self.check_refused([add(SPOT)], touching(i), -2)
        self.check_answers([touching(0)], [-2])


class FarOut(DeskCase):
    def test_only_just_beyond_and_only_just_within(self):
        # The first spot is farther from the bar than 2 * FAR by less than 10 ** -27.
        bar = [(0, -FAR), (FAR, -FAR + 1)]
        self.assertFalse(touch(bar, FAR, [(-1, FAR)], FAR))
        self.assertTrue(touch(bar, FAR, [(0, FAR)], FAR))
        self.assertTrue(touch(bar, FAR, [(1, FAR)], FAR))

    def test_opposite_corners(self):
        self.assertFalse(touch([(-FAR, -FAR)], FAR, [(FAR, FAR)], FAR))
        self.assertTrue(touch([(-FAR, -FAR)], FAR, [(FAR, -FAR)], FAR))
        self.assertFalse(touch([(-FAR, -FAR)], FAR, [(FAR, -FAR)], FAR - 1))
        self.assertFalse(touch([(-FAR, -FAR)], FAR, [(FAR, -FAR + 1)], FAR))

    def test_long_slanting_lines(self):
        # The second spot is 500000000 away from the line through the range: 3, 4, 5.
        bar = [(-600000000, -800000000), (600000000, 800000000)]
        self.assertTrue(touch(bar, 0, [(-400000000, 300000000)], 500000000))
        self.assertFalse(touch(bar, 0, [(-400000000, 300000000)], 499999999))
        self.assertFalse(touch(bar, 0, [(-400000001, 300000000)], 500000000))
        self.assertTrue(touch(bar, 0, [(-399999999, 300000000)], 500000000))

    def test_almost_parallel_bars(self):
        long = [(-FAR, -FAR), (FAR, FAR)]
        self.assertTrue(touch(long, 0, [(-FAR, -FAR + 1), (FAR, FAR - 1)], 0))
        self.assertFalse(touch(long, 0, [(-FAR, -FAR + 1), (FAR - 1, FAR)], 0))
        self.assertTrue(touch(long, 0, [(-FAR, -FAR + 1), (FAR - 1, FAR)], 1))

    def test_great_polygons(self):
        low = [(-FAR, -FAR), (FAR, -FAR), (FAR, FAR - 1)]
        high = [(-FAR, -FAR + 1), (FAR, FAR), (-FAR, FAR)]
        self.assertFalse(touch(low, 0, high, 0))
        self.assertTrue(touch(low, 0, high, 1))
        self.assertTrue(touch(low, 0, [(-FAR, -FAR), (FAR, FAR), (-FAR, FAR)], 0))


# The square of the least distance as a fraction, worked out otherwise than in the program.
def square_from_point(p, a, b):
    ux, uy = b[0] - a[0], b[1] - a[1]
    length = ux * ux + uy * uy
    t = Fraction(0)
    if length != 0:
        t = min(max(Fraction((p[0] - a[0]) * ux + (p[1] - a[1]) * uy, length), 0), 1)
    x, y = a[0] + t * ux - p[0], a[1] + t * uy - p[1]
    return x * x + y * y


def cross(a, b, c, d):
    ux, uy, vx, vy = b[0] - a[0], b[1] - a[1], d[0] - c[0], d[1] - c[1]
    bottom = ux * vy - uy * vx
    if bottom == 0:
        return False
    s = Fraction((c[0] - a[0]) * vy - (c[1] - a[1]) * vx, bottom)
    t = Fraction((c[0] - a[0]) * uy - (c[1] - a[1]) * ux, bottom)
    return 0 <= s <= 1 and 0 <= t <= 1


def sides(points):
    if len(points) == 2:
        return [tuple(points)]
    return [(points[k - 1], points[k]) for k in range(len(points))]


# Winding number: how often the sides go round the point.
def winds_round(points, p):
    count = 0
    for a, b in sides(points):
        side = (b[0] - a[0]) * (p[1] - a[1]) - (b[1] - a[1]) * (p[0] - a[0])
        if a[1] <= p[1] < b[1] and side > 0:
            count += 1
        if b[1] <= p[1] < a[1] and side < 0:
            count -= 1
    return count != 0


def least_square(one, other):
    if len(one) > 2 and any(winds_round(one, p) for p in other):
        return 0
    if len(other) > 2 and any(winds_round(other, p) for p in one):
        return 0
    found = []
    for a, b in sides(one):
        for c, d in sides(other):
            if cross(a, b, c, d):
                return 0
            found += [square_from_point(a, c, d), square_from_point(b, c, d),
                      square_from_point(c, a, b), square_from_point(d, a, b)]
    return min(found)


def some_skeleton(lot, size, counts):
    while True:
        count = lot.choice(counts)
        points = [(lot.randrange(-size, size + 1), lot.randrange(-size, size + 1)) for k in range(count)]
        if ask([add(points)]) == [[0]]:
            return points


class AgainstAnotherWay(DeskCase):
    def check_by_lot(self, seed, size, radius, pieces, rounds, counts=(1, 2, 3, 3, 4, 4, 5, 6)):
        lot = Random(seed)
        for at in range(rounds):
            board = [(some_skeleton(lot, size, counts), lot.randrange(radius + 1)) for k in range(pieces)]
            found = ask([add(points, r=r) for points, r in board] + [touching(i) for i in range(pieces)])
            for i in range(pieces):
                near = [j for j in range(pieces) if j != i
                        and least_square(board[i][0], board[j][0]) <= (board[i][1] + board[j][1]) ** 2]
                self.assertEqual(found[pieces + i], [len(near)] + near, board)

    def test_a_small_grid(self):
        self.check_by_lot(31, 5, 1, 12, 20)

    def test_a_wider_grid(self):
        self.check_by_lot(32, 30, 5, 12, 20)

    def test_the_whole_range(self):
        self.check_by_lot(33, FAR, FAR // 4, 12, 10)

    def test_radius_0(self):
        self.check_by_lot(34, 8, 0, 12, 20)

    def test_bars_and_spots(self):
        self.check_by_lot(35, 8, 0, 40, 2, (1, 2, 2, 2))
        self.check_by_lot(36, 8, 1, 40, 2, (1, 2, 2, 2))
        self.check_by_lot(37, 40, 4, 40, 2, (1, 2, 2, 2))
        self.check_by_lot(38, FAR, FAR // 20, 40, 2, (1, 2, 2, 2))
