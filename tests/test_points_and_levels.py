"""point and levels: which pieces hold a point, and on which layers a part is."""

from random import Random

from tests.helper import (
    BAR, CUP, FAR, HUGE, SPOT, SQUARE, DeskCase, add, all_pieces, ask, begin, label, last, least_square, levels,
    move, parts, point, remove, row, some_skeleton, touching,
)

SLANTING = [(0, 0), (40, 30)]
RANGE = [(-FAR, -FAR), (FAR, -FAR), (FAR, FAR), (-FAR, FAR)]

# Each row: a skeleton, a radius, points that it holds, and points that it doesn't.
HELD = (
    ("a spot", SPOT, 0, [(0, 0)], [(1, 0), (0, -1), (-1, -1)]),
    ("a round spot", SPOT, 5, [(0, 0), (5, 0), (0, -5), (3, 4), (-4, 3), (-3, -4), (2, -2)],
     [(6, 0), (0, -6), (4, 4), (-5, 1), (1, 5), (-4, -4)]),
    ("a level bar", BAR, 0, [(-10, 0), (10, 0), (0, 0), (3, 0)], [(11, 0), (-11, 0), (3, 1), (3, -1)]),
    ("a round level bar", BAR, 5, [(-15, 0), (15, 0), (0, 5), (-7, -5), (13, 4), (-13, -4), (10, 5)],
     [(-16, 0), (16, 0), (0, 6), (-7, -6), (14, 4), (13, 5), (-13, -5), (11, 5)]),
    ("a slanting bar", SLANTING, 0, [(0, 0), (4, 3), (20, 15), (40, 30)],
     [(-4, -3), (44, 33), (20, 14), (20, 16), (1, 1)]),
    ("a round slanting bar", SLANTING, 10,
     [(-6, 8), (6, -8), (34, 38), (14, 23), (26, 7), (40, 40), (46, 38), (-10, 0), (-6, -8), (48, 36), (-8, -6)],
     [(-7, 8), (6, -9), (34, 39), (13, 23), (27, 7), (40, 41), (47, 38), (-10, -1), (-6, -9), (49, 36), (-9, -6)]),
    ("a square", SQUARE, 0, [(0, 0), (9, -9), (10, 3), (-10, 0), (0, 10), (4, -10), (10, 10), (-10, -10), (10, -10)],
     [(11, 0), (-11, 3), (0, 11), (0, -11), (10, 11), (11, 10), (-11, -10)]),
    ("a round square", SQUARE, 5, [(0, 0), (15, 0), (-15, 10), (2, -15), (13, 14), (-14, -13), (10, 15), (12, 12)],
     [(16, 0), (-16, 10), (2, -16), (14, 14), (13, 15), (-14, -14), (10, 16), (11, 15)]),
    ("a cup", CUP, 0, [(-7, 0), (7, 10), (5, 0), (-5, 10), (5, -5), (-5, -5), (0, -5), (0, -7), (10, 10)],
     [(0, 0), (4, -4), (-4, 10), (0, 10), (0, 50), (11, 0)]),
    ("a round cup", CUP, 4, [(1, 0), (-1, 3), (0, -1), (1, 10), (14, 0), (0, -14), (5, 14), (-8, 14)],
     [(0, 0), (0, 3), (0, 10), (15, 0), (0, -15), (4, 14), (5, 15)]),
    ("a triangle", [(0, 0), (40, 30), (0, 30)], 0, [(1, 1), (4, 3), (0, 15), (20, 30), (0, 0), (40, 30), (5, 20)],
     [(1, 0), (5, 3), (-1, 15), (20, 31), (41, 30), (0, -1)]),
    ("a round triangle", [(0, 0), (40, 30), (0, 30)], 10, [(6, -8), (26, 7), (-10, 15), (20, 40), (5, 20), (48, 36)],
     [(6, -9), (27, 7), (-11, 15), (20, 41), (49, 36)]),
    ("the whole range", RANGE, 0, [(0, 0), (FAR, FAR), (-FAR, 7), (FAR, -FAR), (123456789, -987654321)], []),
    ("a spot as far out as it goes", [(FAR, FAR)], FAR, [(FAR, 0), (0, FAR), (400000000, 200000000)],
     [(FAR, -1), (-1, FAR), (400000000, 199999999), (399999999, 200000000), (-FAR, -FAR)]),
    ("a bar as long as it goes", [(-FAR, -FAR), (FAR, FAR)], 0, [(-FAR, -FAR), (7, 7), (FAR, FAR)],
     [(7, 8), (8, 7), (FAR, FAR - 1), (-FAR, FAR)]),
    ("just beyond a far bar", [(0, -FAR), (FAR, -FAR + 1)], FAR, [(0, 0), (1, 0), (FAR, 1)], [(-1, 0), (FAR, 2)]),
)


class Held(DeskCase):
    def test_each_kind_of_skeleton(self):
        for name, skeleton, r, held, others in HELD:
            for points, answer in ((held, [1, 0]), (others, [0])):
                for x, y in points:
                    self.assertEqual(last([add(skeleton, r=r), point(1, x, y)]), answer, (name, x, y))

    def test_after_a_move(self):
        for name, skeleton, r, held, others in HELD[:12]:
            calls = [add(skeleton, r=r), move(0, 500, -700)]
            for points, answer in ((held, [1, 0]), (others, [0])):
                for x, y in points:
                    self.assertEqual(last(calls + [point(1, x + 500, y - 700)]), answer, (name, x, y))


class WhichPieces(DeskCase):
    def test_empty_boards(self):
        self.check_answers([point(1, 0, 0)], [0])
        self.check_answers([add(SQUARE), begin(2), point(1, 0, 0)], [0])

    def test_several_pieces_rising(self):
        calls = [add([(k, 0)], r=10) for k in (12, 5, -11, 0, 3)]
        self.check_answers(calls + [point(1, 0, 0), point(1, 3, 0), point(1, -1, 0), point(1, 40, 0)],
                           [3, 1, 3, 4], [4, 0, 1, 3, 4], [4, 1, 2, 3, 4], [0])

    def test_a_piece_of_several_layers(self):
        calls = [begin(5), add(SQUARE, first=2, last=4), add(SPOT, first=4, last=4), add(BAR, first=1, last=5)]
        self.check_answers(calls + [point(layer, 0, 0) for layer in range(1, 6)],
                           [1, 2], [2, 0, 2], [2, 0, 2], [3, 0, 1, 2], [1, 2])

    def test_pieces_need_not_be_joined_and_nets_do_not_matter(self):
        calls = [add(SQUARE, net=5), add(SPOT, net=0), add([(0, 0), (50, 50)], net=7)]
        self.check_answers(calls + [point(1, 0, 0), point(1, 50, 50), point(1, 9, -9), point(2, 0, 0)],
                           [3, 0, 1, 2], [1, 2], [1, 0], [0])

    def test_after_changes(self):
        self.check_answers([add(SQUARE), add(SPOT), point(1, 0, 0), remove(0), point(1, 0, 0), move(1, 1, 0),
                            point(1, 0, 0), point(1, 1, 0), label(1, 4), point(1, 1, 0)],
                           [2, 0, 1], [0], [1, 1], [0], [0], [1, 1], [0], [1, 1])

    def test_nothing_is_added(self):
        self.check_answers([add(SQUARE), point(1, 0, 0), point(2, 1, 1), all_pieces(), parts(), touching(0)],
                           [1, 0], [0], [1, 0], [1, 0], [0])
        full = row(range(128))
        self.check_answers(full + [point(1, 0, 0), point(1, 1, 0)], [1, 0], [2, 0, 1])

    def test_by_lot(self):
        lot = Random(71)
        for at in range(20):
            board = [(some_skeleton(lot, 12, (1, 2, 3, 4, 5, 6)), lot.randrange(4)) for k in range(8)]
            calls = [add(points, r=r) for points, r in board]
            asked = [(lot.randrange(-14, 15), lot.randrange(-14, 15)) for k in range(60)]
            found = ask(calls + [point(1, x, y) for x, y in asked])[8:]
            for p, answer in zip(asked, found):
                held = [i for i, (points, r) in enumerate(board) if least_square([p], points) <= r * r]
                self.assertEqual(answer, [len(held)] + held, (board, p))


class RefusalsOfPoint(DeskCase):
    CALLS = [begin(3), add(SQUARE, last=3), add(SPOT, first=2, last=2)]

    def test_a_layer_that_is_not_there(self):
        for layer in (-HUGE, -3, -1, 0, 4, 16, 17, HUGE):
            self.check_refused(self.CALLS, point(layer, 0, 0), -4)
        self.check_answers([point(2, 0, 0), point(3, 0, 0)], [0], [-4])
        self.check_answers([begin(1), point(1, 0, 0), point(2, 0, 0)], [0], [-4])
        self.check_answers([begin(16), point(16, 0, 0), point(17, 0, 0)], [0], [-4])

    def test_a_coordinate_out_of_range(self):
        for wrong in (-HUGE, -FAR - 1, FAR + 1, HUGE):
            self.check_refused(self.CALLS, point(1, wrong, 0), -7)
            self.check_refused(self.CALLS, point(3, 0, wrong), -7)
            self.check_refused(self.CALLS, point(2, wrong, wrong), -7)
        for x, y in RANGE:
            self.check_answers([point(1, x, y)], [0])

    def test_both_at_once(self):
        for layer in (-HUGE, 0, 4, HUGE):
            for wrong in (-HUGE, -FAR - 1, FAR + 1, HUGE):
                self.check_refused(self.CALLS, point(layer, wrong, 0), -4)
                self.check_refused(self.CALLS, point(layer, 0, wrong), -4)


class Levels(DeskCase):
    def test_a_piece_alone(self):
        for first in range(1, 17):
            for end in range(first, 17):
                span = list(range(first, end + 1))
                self.check_answers([begin(16), add(SPOT, first=first, last=end), levels(0)], [len(span)] + span)

    def test_several_pieces_of_one_part(self):
        calls = [begin(8), add(SPOT, first=6, last=7), add(BAR, first=3, last=6), add([(10, 0)], first=2, last=3)]
        self.check_answers(calls + [levels(0), levels(1), levels(2)], *[[6, 2, 3, 4, 5, 6, 7]] * 3)

    def test_each_layer_once(self):
        calls = [begin(4), add(SPOT, first=1, last=3), add(SPOT, first=2, last=3), add(BAR, first=2, last=2)]
        self.check_answers(calls + [levels(2)], [3, 1, 2, 3])

    def test_layers_between_that_another_part_is_on(self):
        # The parts cross each other seen from above, but on unlike layers.
        calls = [begin(5), add(BAR, first=1, last=2), add(SPOT, first=4, last=5), add(SQUARE, first=3, last=3)]
        self.check_answers(calls + [levels(0), levels(1), levels(2)], [2, 1, 2], [2, 4, 5], [1, 3])

    def test_layers_of_a_part_follow_one_another(self):
        # What touches shares a layer, so that a part leaves out no layer between its own.
        calls = [begin(9), add(SPOT, first=2, last=4), add(SPOT, first=4, last=4), add(SPOT, first=4, last=8),
                 add([(99, 99)], first=1, last=9)]
        self.check_answers(calls + [levels(1), remove(2), levels(1), remove(0), levels(1)],
                           [7, 2, 3, 4, 5, 6, 7, 8], [0], [3, 2, 3, 4], [0], [1, 4])

    def test_after_changes(self):
        calls = [begin(4), add(SPOT), add(SPOT, last=3), add([(5, 5)], first=3, last=4)]
        self.check_answers(calls + [levels(0), move(2, -5, -5), levels(0), label(1, 7), levels(2), remove(1),
                                    levels(0), levels(2)],
                           [3, 1, 2, 3], [0], [4, 1, 2, 3, 4], [0], [4, 1, 2, 3, 4], [0], [1, 1], [2, 3, 4])

    def test_refusals(self):
        for i in (-HUGE, -128, -1, 2, 127, 128, HUGE):
            self.check_refused(row((0, 1)), levels(i), -2)
        self.check_answers([levels(0)], [-2])
        self.check_answers(row((0, 1)) + [remove(0), levels(0), levels(1)], [-2], [1, 1])
