"""cuts and needed: which pieces hold others together."""

from random import Random

from tests.helper import (
    HUGE, DeskCase, add, all_pieces, ask, begin, cuts, grid, joined, label, last, move, needed, parts, remove,
    row, touching,
)

# Round a middle that none of them reaches: each touches the one before and the one behind.
RING = [add([(0, 0), (10, 0)]), add([(10, 0), (10, 10)]), add([(10, 10), (0, 10)]), add([(0, 10), (0, 0)])]
# Piece 0 in the middle holds the four arms together.
CROSS = [add([(0, 0)], r=3), add([(3, 0), (9, 0)]), add([(-3, 0), (-9, 0)]), add([(0, 3), (0, 9)]),
         add([(0, -3), (0, -9)])]
# 0 - 1, from there the ways 2 - 3 and 4 - 5 that meet again at 6, then 7.
TWO_WAYS = [
    add([(0, 0)]), add([(0, 0), (10, 0)]), add([(10, 0), (10, 10)]), add([(10, 10), (20, 10)]),
    add([(10, 0), (10, -10)]), add([(10, -10), (20, -10)]), add([(20, 10), (20, -10)]), add([(20, 0), (30, 0)]),
]
NO_PIECES = (-HUGE, -128, -1, 8, 127, 128, HUGE)


class Cuts(DeskCase):
    def test_empty_boards(self):
        self.check_answers([cuts()], [0])
        self.check_answers(row((0, 1, 2)) + [begin(2), cuts()], [0])

    def test_a_single_piece_alone(self):
        self.check_answers(row((0,)) + [cuts()], [0])
        self.check_answers(row((0, 5, 10)) + [cuts()], [0])

    def test_a_row_and_its_ends(self):
        self.check_answers(row((0, 1)) + [cuts()], [0])
        self.check_answers(row((0, 1, 2)) + [cuts()], [1, 1])
        self.check_answers(row((1, 0, 2)) + [cuts()], [1, 0])
        self.check_answers(row((0, 2, 1)) + [cuts()], [1, 2])
        self.check_answers(row((0, 1, 2, 3, 4)) + [cuts()], [3, 1, 2, 3])
        self.check_answers(row((2, 0, 3, 1, 4)) + [cuts()], [3, 0, 2, 3])

    def test_a_ring(self):
        self.check_answers(RING + [cuts()], [0])
        self.check_answers(RING + [add([(-5, 0), (0, 0)]), cuts()], [0])
        self.check_answers(RING + [add([(-5, 5), (0, 5)]), cuts()], [1, 3])
        self.check_answers(RING + [remove(1), cuts()], [1, 3])

    def test_three_that_touch_each_other(self):
        self.check_answers([add([(k, 0)], r=5) for k in range(3)] + [cuts()], [0])

    def test_a_piece_that_holds_many_together(self):
        self.check_answers(CROSS[:4] + [cuts()], [1, 0])
        self.check_answers(CROSS + [cuts()], [1, 0])
        self.check_answers(CROSS[1:] + [add([(0, 0)], r=3), cuts()], [1, 4])

    def test_two_rings_that_share_one_piece(self):
        other = [add([(-10, 0), (0, 3)]), add([(-10, 0), (-10, 10)]), add([(-10, 10), (0, 7)])]
        self.check_answers(RING + other + [cuts()], [1, 3])

    def test_two_ways(self):
        self.check_answers(TWO_WAYS + [cuts()], [2, 1, 6])
        self.check_answers(TWO_WAYS + [remove(5), cuts()], [4, 1, 2, 3, 6])

    def test_several_parts(self):
        self.check_answers(row((0, 10, 1, 11, 2, 12, 20, 30, 31)) + [cuts()], [2, 2, 3])

    def test_after_changes(self):
        self.check_answers(
            row((0, 1, 2, 5)) + [cuts(), move(3, -4, 0), cuts(), label(0, 5), cuts(), remove(0), cuts(),
                                 move(3, 6, 0), cuts()],
            [1, 1], [0], [2, 1, 2], [0], [2, 1, 2], [0], [1, 2], [0], [0])

    def test_the_whole_board_in_a_row(self):
        self.check_answers(row(range(128)) + [cuts()], [126] + list(range(1, 127)))
        self.check_answers(row(range(127, -1, -1)) + [cuts()], [126] + list(range(1, 127)))


class Needed(DeskCase):
    def test_i_and_j_alike(self):
        for i in range(3):
            self.check_answers(row((0, 1, 2)) + [needed(i, i)], [0])
        self.check_answers(row((0,)) + [needed(0, 0)], [0])

    def test_i_and_j_that_touch(self):
        for i, j in ((0, 1), (1, 0), (1, 2), (2, 1), (3, 4)):
            self.check_answers(row((0, 1, 2, 3, 4)) + [needed(i, j)], [0])

    def test_a_row(self):
        five = row((0, 1, 2, 3, 4))
        self.check_answers(five + [needed(0, 4), needed(4, 0)], [3, 1, 2, 3], [3, 1, 2, 3])
        self.check_answers(five + [needed(1, 3), needed(3, 1)], [1, 2], [1, 2])
        self.check_answers(row((0, 4, 2, 1, 3)) + [needed(0, 1), needed(1, 3)], [3, 2, 3, 4], [2, 2, 4])

    def test_two_ways_that_meet_again(self):
        self.check_answers(TWO_WAYS + [needed(0, 7), needed(7, 0)], [2, 1, 6], [2, 1, 6])
        self.check_answers(TWO_WAYS + [needed(2, 5), needed(5, 2), needed(1, 6)], [0], [0], [0])
        self.check_answers(TWO_WAYS + [needed(0, 3), needed(3, 7), needed(0, 6)], [1, 1], [1, 6], [1, 1])
        self.check_answers(TWO_WAYS + [remove(4), needed(0, 7)], [4, 1, 2, 3, 6])

    def test_a_ring(self):
        for i in range(4):
            for j in range(4):
                self.check_answers(RING + [needed(i, j)], [0])

    def test_what_only_holds_others(self):
        self.check_answers(CROSS + [needed(1, 2), needed(0, 3), needed(3, 0)], [1, 0], [0], [0])
        self.check_answers(row((0, 1, 2, 3, 4)) + [add([(4, 1), (4, 9)]), needed(0, 5), needed(0, 2)],
                           [2, 1, 2], [1, 1])

    def test_not_joined(self):
        self.check_answers(row((0, 1, 2, 10, 11, 12)) + [needed(0, 3), needed(5, 0), needed(2, 4)], [0], [0], [0])

    def test_after_changes(self):
        self.check_answers(
            row((0, 1, 2, 3)) + [needed(0, 3), remove(1), needed(0, 3), move(0, 2, 0), needed(0, 3), label(2, 9),
                                 needed(0, 3), add([(2, 0), (6, 0)]), needed(0, 3)],
            [2, 1, 2], [0], [0], [0], [1, 2], [0], [1, 2], [1], [0])

    def test_the_whole_board_in_a_row(self):
        self.check_answers(row(range(128)) + [needed(0, 127), needed(127, 0), needed(60, 63)],
                           [126] + list(range(1, 127)), [126] + list(range(1, 127)), [2, 61, 62])

    def test_refusals(self):
        for i in NO_PIECES:
            self.check_refused(TWO_WAYS, needed(i, 0), -2)
            self.check_refused(TWO_WAYS, needed(0, i), -2)
            self.check_refused(TWO_WAYS, needed(i, i), -2)
        self.check_answers([needed(0, 0)], [-2])
        self.check_answers(row((0, 1)) + [remove(1), needed(0, 1), needed(1, 0), needed(1, 1)], [-2], [-2], [-2])


class BothTellAndDoNothingElse(DeskCase):
    def test_asking_twice(self):
        asked = [cuts(), needed(0, 7), needed(7, 0)]
        self.check_answers(TWO_WAYS + asked * 3 + [parts(), all_pieces(), touching(1)],
                           [2, 1, 6], [2, 1, 6], [2, 1, 6], [1, 0], [8] + list(range(8)), [3, 0, 2, 4])


# Removes each piece in turn and asks again: the words themselves, at the cost of many lines.
class AgainstRemoving(DeskCase):
    def check_board(self, calls):
        left = last(calls + [all_pieces()])[1:]
        count = last(calls + [parts()])[0]
        found = [i for i in left if last(calls + [remove(i), parts()])[0] > count]
        self.check_answers(calls + [cuts()], [len(found)] + found)
        pairs = [(i, j) for i in left for j in left]
        whole = ask(calls + [joined(i, j) for i, j in pairs])[len(calls):]
        without = {k: ask(calls + [remove(k)] + [joined(i, j) for i, j in pairs])[len(calls) + 1:] for k in left}
        told = ask(calls + [needed(i, j) for i, j in pairs])[len(calls):]
        for at, pair in enumerate(pairs):
            found = [k for k in left if k not in pair and whole[at] == [1] and without[k][at] == [0]]
            self.assertEqual(told[at], [len(found)] + found, (calls, pair))

    def test_spots_by_lot(self):
        lot = Random(51)
        for at in range(60):
            size = lot.choice((20, 40, 60))
            calls = [add([(lot.randrange(size), lot.randrange(size))], r=lot.randrange(3, 9)) for k in range(11)]
            self.check_board(calls)
            self.check_board(calls + [remove(lot.randrange(5)), move(lot.randrange(5, 11), 4, -4)])

    def test_bars_by_lot(self):
        lot = Random(52)
        for at in range(60):
            ends = [(x, y) for x in range(4) for y in range(3)]
            self.check_board([add(lot.sample(ends, 2), first=lot.choice((1, 1, 2)), last=2) for k in range(10)])

    def test_grids_by_lot(self):
        lot = Random(53)
        places = [(i, j) for i in range(3) for j in range(3)]
        for at in range(60):
            self.check_board(grid(lot.sample(places, lot.randrange(3, 7)), 3, 3))
