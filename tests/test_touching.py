"""What touches what: shapes near each other, within each other, on one layer or not."""

from random import Random

from tests.helper import (
    AT_DISTANCE, BAR, CUP, FAR, HUGE, SPOT, SQUARE, DeskCase, add, ask, begin, last, least_square, move,
    remove, some_skeleton, touching,
)

def touch(one, r, other, s):
    return last([add(one, r=r), add(other, r=s), touching(0)]) == [1, 1]


class AtTheSumOfTheRadii(DeskCase):
    def test_at_it_and_just_below_it(self):
        for name, one, other, distance, away in AT_DISTANCE:
            for r in range(distance + 1):
                self.assertTrue(touch(one, r, other, distance - r), name)
                self.assertTrue(touch(other, r, one, distance - r), name)
                self.assertTrue(touch(one, r, other, distance - r + 1), name)
            for r in range(distance):
                self.assertFalse(touch(one, r, other, distance - 1 - r), name)
                self.assertFalse(touch(other, r, one, distance - 1 - r), name)

    def test_a_step_farther_away_and_back(self):
        for name, one, other, distance, away in AT_DISTANCE:
            if away is not None:
                found = ask([add(one, r=1), add(other, r=distance - 1), touching(0), touching(1),
                             move(1, away[0], away[1]), touching(0), touching(1),
                             move(1, -away[0], -away[1]), touching(0), touching(1)])
                self.assertEqual(found[2:], [[1, 1], [1, 0], [0], [0], [0], [0], [1, 1], [1, 0]], name)


class NearEachOthersLines(DeskCase):
    def test_each_bar_near_the_line_of_the_other_but_not_near_it(self):
        # The ends (10, 0) and (15, 9) are the nearest, a little more than 10 apart.
        one = [(0, 0), (10, 0)]
        other = [(9, 100), (15, 9)]
        for turned in (lambda x, y: (x, y), lambda x, y: (-x, y), lambda x, y: (x, -y), lambda x, y: (y, x),
                       lambda x, y: (-y, x), lambda x, y: (y, -x), lambda x, y: (-x, -y), lambda x, y: (-y, -x)):
            this = [turned(x, y) for x, y in one]
            that = [turned(x, y) for x, y in other]
            self.assertFalse(touch(this, 4, that, 6))
            self.assertFalse(touch(that, 4, this, 6))
            self.assertTrue(touch(this, 5, that, 6))


class WithRadius0(DeskCase):
    def test_a_common_point_is_enough(self):
        for one, other in (
            (SPOT, [(0, 0)]), (BAR, [(3, 0)]), (BAR, [(10, 0)]), (BAR, [(-10, 0)]),
            ([(0, 0), (6, 4)], [(3, 2)]), (SQUARE, [(10, 3)]), (SQUARE, [(10, 10)]), (SQUARE, [(0, 0)]),
            (BAR, [(0, -5), (0, 5)]), (BAR, [(10, 0), (12, 9)]), (BAR, [(4, 0), (4, 9)]), (BAR, [(10, 0), (20, 0)]),
            (BAR, [(-5, 0), (5, 0)]), (BAR, [(5, 0), (25, 0)]), (BAR, [(-10, 0), (10, 0)]),
            ([(0, 0), (6, 4)], [(3, 2), (9, 6)]), (SQUARE, [(-20, 0), (20, 0)]), (SQUARE, [(10, 0), (20, 0)]),
            (SQUARE, [(0, 20), (20, 0)]), (SQUARE, [(-20, 10), (20, 10)]), (SQUARE, [(-1, -1), (1, 2)]),
            (SQUARE, [(10, 10), (20, 10), (20, 20)]), (SQUARE, [(10, -3), (20, 0), (10, 3)]),
            (SQUARE, [(-20, -1), (20, -1), (20, 1), (-20, 1)]), (SQUARE, [(-3, -3), (3, -3), (0, 3)]),
            (SQUARE, SQUARE), (SQUARE, CUP), (CUP, [(-7, 0)]), (CUP, [(5, 0), (0, 0), (0, 5)]),
        ):
            self.assertTrue(touch(one, 0, other, 0), (one, other))
            self.assertTrue(touch(other, 0, one, 0), (one, other))

    def test_no_common_point(self):
        for one, other in (
            (SPOT, [(1, 0)]), (SPOT, [(0, -1)]), (BAR, [(0, 1)]), (BAR, [(11, 0)]), (BAR, [(-11, 0)]),
            ([(0, 0), (6, 5)], [(3, 2)]), (SQUARE, [(11, 0)]), (SQUARE, [(-11, -10)]), (SQUARE, [(0, 11)]),
            (BAR, [(0, 1), (0, 5)]), (BAR, [(11, 0), (20, 0)]), (BAR, [(-10, 1), (10, 1)]),
            ([(0, 0), (6, 4)], [(9, 6), (12, 8)]), ([(0, 0), (6, 4)], [(0, 1), (6, 5)]),
            ([(0, 0), (10, 0)], [(6, 4), (14, -2)]), ([(0, 0), (10, 0)], [(6, -4), (14, 2)]),
            ([(0, 0), (0, 10)], [(4, 6), (-2, 14)]), ([(0, 0), (0, 10)], [(-4, 6), (2, 14)]),
            (SQUARE, [(0, 21), (21, 0)]), (SQUARE, [(11, -9), (11, 9)]),
            (SQUARE, [(11, 10), (20, 10), (20, 20)]), (CUP, [(0, 0)]), (CUP, [(0, 10)]), (CUP, [(-4, 0), (4, 0)]),
            (CUP, [(-4, -4), (4, -4), (4, 9), (-4, 9)]), (CUP, [(0, -4), (0, 90)]), (CUP, [(4, -4)]),
        ):
            self.assertFalse(touch(one, 0, other, 0), (one, other))
            self.assertFalse(touch(other, 0, one, 0), (one, other))


class WithinOneAnother(DeskCase):
    def test_far_within_a_polygon(self):
        wide = [(-FAR, -FAR), (FAR, -FAR), (FAR, FAR), (-FAR, FAR)]
        for other in ([(1, 2)], [(0, 0), (5, 5)], [(0, 0), (9, 0), (0, 9)], [(-FAR, 5)], SQUARE):
            self.assertTrue(touch(wide, 0, other, 0))
            self.assertTrue(touch(other, 0, wide, 0))

    def test_within_a_round_rim(self):
        self.assertTrue(touch([(0, 0)], FAR, [(1, 1)], 0))
        self.assertTrue(touch([(0, 0), (5, 0)], 1000, SQUARE, 0))

    def test_within_the_arms_but_not_within(self):
        ring = [(0, 0), (90, 0), (90, 90), (46, 90), (46, 80), (80, 80), (80, 10), (10, 10), (10, 80),
                (44, 80), (44, 90), (0, 90)]
        self.assertFalse(touch(ring, 0, [(30, 30), (60, 30), (45, 60)], 0))
        self.assertFalse(touch(ring, 10, [(30, 30), (60, 30), (45, 60)], 9))
        self.assertTrue(touch(ring, 10, [(30, 30), (60, 30), (45, 60)], 10))
        self.assertTrue(touch(ring, 0, [(5, 5)], 0))

    def test_a_point_level_with_corners(self):
        # A ray through corners counts each of them right.
        diamond = [(0, -10), (10, 0), (0, 10), (-10, 0)]
        self.assertTrue(touch(diamond, 0, [(0, 0)], 0))
        self.assertFalse(touch(diamond, 0, [(-11, 0)], 0))
        self.assertFalse(touch(diamond, 0, [(-9, 10)], 0))
        self.assertFalse(touch(diamond, 0, [(-9, -10)], 0))
        saw = [(0, 0), (40, 0), (40, 10), (30, 5), (20, 10), (10, 5), (0, 10)]
        self.assertFalse(touch(saw, 0, [(-5, 5)], 0))
        self.assertFalse(touch(saw, 0, [(10, 9)], 0))
        self.assertFalse(touch(saw, 0, [(30, 10)], 0))
        self.assertTrue(touch(saw, 0, [(20, 5)], 0))
        self.assertTrue(touch(saw, 0, [(5, 5)], 0))


class Layers(DeskCase):
    def test_each_two_spans(self):
        spans = [(f, t) for f in range(1, 5) for t in range(f, 5)]
        for first, end in spans:
            for start, stop in spans:
                common = set(range(first, end + 1)) & set(range(start, stop + 1))
                found = last([begin(4), add(SQUARE, first=first, last=end),
                              add(SPOT, first=start, last=stop), touching(0)])
                self.assertEqual(found, [1, 1] if common else [0])

    def test_a_barrel_touches_on_its_last_layer(self):
        self.check_answers([begin(16), add(SPOT, first=1, last=16, r=3), add(BAR, first=16, last=16),
                            add(BAR, first=1, last=1), touching(0), touching(1)],
                           [2, 1, 2], [1, 0])


class Lists(DeskCase):
    def test_rising_and_without_itself(self):
        six = [add([(k, 0)], r=1) for k in (0, 2, 4, 1, 3, 9)]
        found = ask(six + [touching(i) for i in range(6)])[6:]
        self.assertEqual(found, [[2, 1, 3], [4, 0, 2, 3, 4], [2, 1, 4], [3, 0, 1, 4], [3, 1, 2, 3], [0]])

    def test_the_order_of_adding_does_not_matter(self):
        calls = [add([(k, 0)], r=1) for k in range(4)] + [remove(0), remove(2), add(SPOT, r=9), add(SPOT, r=9)]
        self.check_answers(calls + [touching(3), touching(0)], [3, 0, 1, 2], [3, 1, 2, 3])

    def test_refusals(self):
        for i in (-HUGE, -128, -1, 1, 127, 128, HUGE):
            self.check_refused([add(SPOT)], touching(i), -2)
        self.check_answers([touching(0)], [-2])


class FarOut(DeskCase):
    def test_only_just_beyond_and_only_just_within(self):
        # The first spot is farther from the bar than 2 * FAR by less than 10 ** -27.
        bar = [(0, -FAR), (FAR, -FAR + 1)]
        self.assertFalse(touch(bar, FAR, [(-1, FAR)], FAR))
        self.assertTrue(touch(bar, FAR, [(0, FAR)], FAR))
        self.assertTrue(touch(bar, FAR, [(1, FAR)], FAR))

    def test_opposite_corners(self):
        self.assertFalse(touch([(-FAR, -FAR)], FAR, [(FAR, FAR)], FAR))
        self.assertTrue(touch([(-FAR, -FAR)], FAR, [(FAR, -FAR)], FAR))
        self.assertFalse(touch([(-FAR, -FAR)], FAR, [(FAR, -FAR)], FAR - 1))
        self.assertFalse(touch([(-FAR, -FAR)], FAR, [(FAR, -FAR + 1)], FAR))

    def test_long_slanting_lines(self):
        # The second spot is 500000000 away from the line through the range: 3, 4, 5.
        bar = [(-600000000, -800000000), (600000000, 800000000)]
        self.assertTrue(touch(bar, 0, [(-400000000, 300000000)], 500000000))
        self.assertFalse(touch(bar, 0, [(-400000000, 300000000)], 499999999))
        self.assertFalse(touch(bar, 0, [(-400000001, 300000000)], 500000000))
        self.assertTrue(touch(bar, 0, [(-399999999, 300000000)], 500000000))

    def test_almost_parallel_bars(self):
        long = [(-FAR, -FAR), (FAR, FAR)]
        self.assertTrue(touch(long, 0, [(-FAR, -FAR + 1), (FAR, FAR - 1)], 0))
        self.assertFalse(touch(long, 0, [(-FAR, -FAR + 1), (FAR - 1, FAR)], 0))
        self.assertTrue(touch(long, 0, [(-FAR, -FAR + 1), (FAR - 1, FAR)], 1))

    def test_great_polygons(self):
        low = [(-FAR, -FAR), (FAR, -FAR), (FAR, FAR - 1)]
        high = [(-FAR, -FAR + 1), (FAR, FAR), (-FAR, FAR)]
        self.assertFalse(touch(low, 0, high, 0))
        self.assertTrue(touch(low, 0, high, 1))
        self.assertTrue(touch(low, 0, [(-FAR, -FAR), (FAR, FAR), (-FAR, FAR)], 0))


class AgainstAnotherWay(DeskCase):
    def check_by_lot(self, seed, size, radius, pieces, rounds, counts=(1, 2, 3, 3, 4, 4, 5, 6)):
        lot = Random(seed)
        for at in range(rounds):
            board = [(some_skeleton(lot, size, counts), lot.randrange(radius + 1)) for k in range(pieces)]
            found = ask([add(points, r=r) for points, r in board] + [touching(i) for i in range(pieces)])
            for i in range(pieces):
                near = [j for j in range(pieces) if j != i
                        and least_square(board[i][0], board[j][0]) <= (board[i][1] + board[j][1]) ** 2]
                self.assertEqual(found[pieces + i], [len(near)] + near, board)

    def test_a_small_grid(self):
        self.check_by_lot(31, 5, 1, 12, 20)

    def test_a_wider_grid(self):
        self.check_by_lot(32, 30, 5, 12, 20)

    def test_the_whole_range(self):
        self.check_by_lot(33, FAR, FAR // 4, 12, 10)

    def test_radius_0(self):
        self.check_by_lot(34, 8, 0, 12, 20)

    def test_bars_and_spots(self):
        self.check_by_lot(35, 8, 0, 40, 2, (1, 2, 2, 2))
        self.check_by_lot(36, 8, 1, 40, 2, (1, 2, 2, 2))
        self.check_by_lot(37, 40, 4, 40, 2, (1, 2, 2, 2))
        self.check_by_lot(38, FAR, FAR // 20, 40, 2, (1, 2, 2, 2))
