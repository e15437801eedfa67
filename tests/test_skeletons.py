"""What is a skeleton, and the form in which its points are kept."""

from fractions import Fraction
from itertools import permutations
from random import Random

from tests.helper import FAR, DeskCase, add, ask, last, piece


def kept(points):
    answer = last([add(points), piece(0)])
    numbers = answer[4:]
    return [tuple(numbers[k:k + 2]) for k in range(0, len(numbers), 2)]


def turned(points, by):
    return points[by:] + points[:by]


# Written by another way than the program's: where the two lines cross, as fractions.
def meet(a, b, c, d):
    ux, uy, vx, vy = b[0] - a[0], b[1] - a[1], d[0] - c[0], d[1] - c[1]
    wx, wy = c[0] - a[0], c[1] - a[1]
    bottom = ux * vy - uy * vx
    if bottom != 0:
        s = Fraction(wx * vy - wy * vx, bottom)
        t = Fraction(wx * uy - wy * ux, bottom)
        return 0 <= s <= 1 and 0 <= t <= 1
    if wx * uy - wy * ux != 0:
        return False
    return min(max(a, b), max(c, d)) >= max(min(a, b), min(c, d))


def on_segment(p, a, b):
    if (b[0] - a[0]) * (p[1] - a[1]) != (b[1] - a[1]) * (p[0] - a[0]):
        return False
    return min(a, b) <= p <= max(a, b)


def simple(points):
    count = len(points)
    sides = [(points[k], points[(k + 1) % count]) for k in range(count)]
    if any(a == b for a, b in sides):
        return False
    for i in range(count):
        for j in range(i):
            if (i - j) % count in (1, count - 1):
                continue
            if meet(*sides[i], *sides[j]):
                return False
    for k in range(count):
        before, at, after = points[k - 1], points[k], points[(k + 1) % count]
        if on_segment(before, at, after) or on_segment(after, before, at):
            return False
    return True


class Bars(DeskCase):
    def test_given_from_either_end(self):
        for low, high in (((0, 0), (5, 0)), ((0, 0), (0, 5)), ((0, 0), (5, 5)), ((5, 0), (0, 5)),
                          ((-7, 3), (-6, 3)), ((FAR, -FAR), (-FAR, FAR)), ((-FAR, FAR), (FAR, FAR)),
                          ((9, 1), (-9, 2))):
            self.assertEqual(kept([low, high]), [low, high])
            self.assertEqual(kept([high, low]), [low, high])

    def test_two_points_alike(self):
        for point in ((0, 0), (5, -5), (FAR, FAR), (-FAR, FAR)):
            self.check_refused([add([(0, 0)])], add([point, point]), -8)

    def test_two_points_alike_in_one_coordinate(self):
        self.check_answers([add([(3, 3), (3, 4)]), add([(3, 3), (4, 3)])], [0], [1])


class PolygonForm(DeskCase):
    def check_form(self, corners):
        for by in range(len(corners)):
            given = turned(corners, by)
            self.assertEqual(kept(given), corners)
            self.assertEqual(kept(given[::-1]), corners)

    def test_any_corner_and_either_way_round(self):
        self.check_form([(0, 0), (4, 0), (0, 3)])
        self.check_form([(0, 0), (1, 0), (0, 1)])
        self.check_form([(5, -7), (9, 2), (-3, 8)])
        self.check_form([(0, 0), (10, 0), (10, 10), (0, 10)])

    def test_several_lowest_corners(self):
        self.check_form([(0, 0), (1, 5), (2, 0), (3, 5), (4, 0), (4, 9), (0, 9)])
        self.check_form([(-8, -2), (0, 4), (6, -2), (6, 6), (-9, 6)])
        self.check_form([(0, 0), (2, 0), (5, 0), (9, 0), (4, 7)])

    def test_the_leftmost_corner_is_not_the_lowest(self):
        self.check_form([(5, 0), (9, 4), (5, 8), (-1, 4)])

    def test_sides_that_go_straight_on_keep_their_corners(self):
        self.check_form([(0, 0), (5, 0), (10, 0), (10, 10), (0, 10)])
        self.check_form([(0, 0), (9, 0), (6, 3), (3, 6), (0, 9), (0, 5)])

    def test_notches(self):
        self.check_form([(0, 0), (9, 0), (9, 9), (5, 1), (4, 1), (0, 9)])

    def test_sides_apart_on_one_line(self):
        self.check_form([(0, 0), (9, 0), (9, 3), (4, 3), (4, 6), (9, 6), (9, 9), (0, 9)])
        self.check_form([(0, 0), (9, 0), (9, 9), (6, 9), (6, 4), (3, 4), (3, 9), (0, 9)])
        self.check_form([(0, 0), (3, 0), (6, 3), (6, 6), (9, 6), (12, 9), (0, 20)])

    def test_32_corners_at_the_ends_of_the_range(self):
        bottom = [(-FAR + k * (FAR // 8), -FAR + (k % 2)) for k in range(16)]
        top = [(x, FAR - y - FAR) for x, y in bottom][::-1]
        self.check_form(bottom + top)


class NoPolygons(DeskCase):
    def check_no_polygon(self, corners):
        for by in range(len(corners)):
            given = turned(corners, by)
            self.check_answers([add(given), piece(0)], [-8], [-2])
            self.check_answers([add(given[::-1]), piece(0)], [-8], [-2])
        self.check_refused([add([(0, 0), (9, 9)], r=3)], add(corners), -8)

    def test_corners_alike_one_behind_another(self):
        self.check_no_polygon([(0, 0), (0, 0), (5, 5)])
        self.check_no_polygon([(0, 0), (9, 0), (9, 0), (0, 9)])
        self.check_no_polygon([(1, 1), (1, 1), (1, 1)])
        self.check_no_polygon([(1, 1)] * 32)

    def test_corners_alike_elsewhere(self):
        self.check_no_polygon([(0, 0), (4, 4), (8, 4), (4, 4), (4, 8)])
        self.check_no_polygon([(0, 0), (5, 0), (0, 0), (0, 5)])
        self.check_no_polygon([(0, 0), (5, 1), (5, -1), (0, 0), (-5, -1), (-5, 1)])

    def test_a_side_that_turns_back(self):
        self.check_no_polygon([(0, 0), (5, 0), (10, 0)])
        self.check_no_polygon([(0, 0), (3, 3), (1, 1)])
        self.check_no_polygon([(0, 0), (10, 0), (5, 0), (5, 5)])
        self.check_no_polygon([(0, 0), (10, 0), (10, 5), (10, -5), (0, -1)])
        self.check_no_polygon([(0, 0), (9, 0), (9, 9), (12, 12), (0, 0)])
        self.check_no_polygon([(0, 0), (6, 6), (6, 0), (6, 2)])

    def test_all_on_one_line(self):
        self.check_no_polygon([(0, 0), (1, 1), (2, 2), (3, 3)])
        self.check_no_polygon([(0, 0), (0, 9), (0, 4), (0, 2)])

    def test_a_corner_on_another_side(self):
        self.check_no_polygon([(0, 0), (10, 0), (10, 10), (5, 0), (0, 10)])
        self.check_no_polygon([(0, 0), (8, 8), (8, 12), (4, 4), (0, 12)])

    def test_crossing_sides(self):
        self.check_no_polygon([(0, 0), (10, 10), (10, 0), (0, 10)])
        self.check_no_polygon([(0, 0), (10, 0), (3, 9), (5, -5), (9, 9)])
        self.check_no_polygon([(0, 3), (9, 3), (2, -3), (5, 8), (8, -3)])

    def test_sides_one_upon_another(self):
        self.check_no_polygon([(0, 0), (10, 0), (10, 5), (8, 5), (8, 0), (2, 0), (2, 5), (0, 5)])

    def test_the_last_side_and_the_first(self):
        self.check_no_polygon([(0, 0), (10, 0), (10, 5), (20, 0)])
        self.check_answers([add([(5, 0), (0, 0), (0, 5), (10, 0)])], [0])

    def test_only_just_no_polygon_far_out(self):
        wide = [(-FAR, -FAR), (FAR, FAR - 1), (FAR, FAR), (0, 0), (-FAR, FAR)]
        self.check_answers([add(wide)], [0])
        self.check_no_polygon([(-FAR, -FAR), (FAR, FAR), (FAR, FAR - 1), (0, 0), (FAR, -FAR), (0, -FAR)])
        self.check_no_polygon([(-FAR, -FAR), (FAR, FAR), (FAR - 1, FAR), (0, -1), (-FAR, FAR)])

    def test_a_gap_of_almost_nothing(self):
        # Two thin spikes beside one another, which don't meet.
        spikes = [(-FAR, -FAR), (FAR, FAR - 1), (-FAR + 1, -FAR + 1), (FAR, FAR), (-FAR, FAR)]
        self.check_answers([add(spikes)], [0])
        crossed = [(-FAR, -FAR), (FAR, FAR), (-FAR + 1, -FAR + 1), (FAR, FAR - 1), (-FAR, FAR)]
        self.check_answers([add(crossed)], [-8])


class AgainstAnotherWay(DeskCase):
    def test_all_triangles_and_quadrangles_of_a_small_grid(self):
        grid = [(x, y) for x in range(3) for y in range(3)]
        for count in (3, 4):
            chosen = list(permutations(grid, count))
            if count == 4:
                chosen = chosen[::3]
            for at in range(0, len(chosen), 60):
                some = chosen[at:at + 60]
                found = [answer[0] for answer in ask([add(points) for points in some])]
                self.assertEqual([number >= 0 for number in found], [simple(points) for points in some])

    def test_polygons_by_lot(self):
        lot = Random(20)
        for at in range(60):
            some = [[(lot.randrange(6), lot.randrange(6)) for k in range(lot.randrange(3, 8))]
                    for k in range(100)]
            found = [answer[0] for answer in ask([add(points) for points in some])]
            for points, number in zip(some, found):
                self.assertEqual(number >= 0, simple(points), points)
                self.assertIn(number >= 0 or number, (True, -8))
