"""near: pieces that aren't joined and have too little room between them."""

from random import Random

from tests.helper import (
    AT_DISTANCE, BAR, CUP, FAR, HUGE, SPOT, SQUARE, DeskCase, add, ask, begin, label, last, least_square, members,
    move, near, parts, remove, row, some_skeleton, touching,
)


def told(one, r, other, s, c):
    return last([add(one, r=r), add(other, r=s), near(c)])


class AtTheDistance(DeskCase):
    def test_exactly_c_away_and_just_below_it(self):
        for name, one, other, distance, away in AT_DISTANCE:
            for r in range(distance):
                c = distance - r
                self.assertEqual(told(one, r, other, 0, c), [0], name)
                self.assertEqual(told(other, 0, one, r, c), [0], name)
                self.assertEqual(told(one, r, other, 0, c + 1), [1, 0, 1], name)
                self.assertEqual(told(other, 0, one, r, c + 1), [1, 0, 1], name)

    def test_both_radii_count(self):
        for name, one, other, distance, away in AT_DISTANCE:
            for r in range(distance - 1):
                self.assertEqual(told(one, r, other, distance - 1 - r, 1), [0], name)
                self.assertEqual(told(one, r, other, distance - 1 - r, 2), [1, 0, 1], name)

    def test_a_step_farther_away(self):
        for name, one, other, distance, away in AT_DISTANCE:
            if away is not None:
                found = ask([add(one), add(other), near(distance), near(distance + 1),
                             move(1, away[0], away[1]), near(distance), move(1, -away[0], -away[1]),
                             near(distance + 1), near(distance)])
                self.assertEqual(found[2:], [[0], [1, 0, 1], [0], [0], [0], [1, 0, 1], [0]], name)

    def test_distances_that_are_no_whole_numbers(self):
        # The distance is the root of 2, of 5 and of 99 * 99 + 1.
        for away, below, above in (((1, 1), 1, 2), ((1, 2), 2, 3), ((99, 1), 99, 100)):
            self.assertEqual(told(SPOT, 0, [away], 0, below), [0])
            self.assertEqual(told(SPOT, 0, [away], 0, above), [1, 0, 1])
        # 1 / root of 2 away from a slanting bar, and 10 / root of 101.
        self.assertEqual(told([(0, 0), (9, 9)], 0, [(5, 4)], 0, 1), [1, 0, 1])
        self.assertEqual(told([(0, 0), (10, 1)], 0, [(5, 10)], 0, 9), [0])
        self.assertEqual(told([(0, 0), (10, 1)], 0, [(5, 10)], 0, 10), [1, 0, 1])

    def test_a_little_beside_an_end_that_is_exactly_c_away(self):
        # The spot is 5 away from (0, 0), and from the bar less by a little, or not at all.
        for end in ((-1, 1), (3, -2), (-4000001, 3000001)):
            self.assertEqual(told([(0, 0), end], 0, [(3, 4)], 0, 5), [1, 0, 1])
            self.assertEqual(told([(0, 0), (-end[0], -end[1])], 0, [(3, 4)], 0, 5), [0])
        self.assertEqual(told([(0, 0), (-4, 3)], 0, [(3, 4)], 0, 5), [0])

    def test_bars_side_by_side_whose_ends_are_exactly_c_away(self):
        self.assertEqual(told([(0, 0), (5, 3)], 0, [(0, 1), (5, 4)], 0, 1), [1, 0, 1])
        self.assertEqual(told([(0, 0), (3, 5)], 0, [(1, 0), (4, 5)], 0, 1), [1, 0, 1])
        self.assertEqual(told([(0, 0), (5, 0)], 0, [(0, 1), (5, 1)], 0, 1), [0])


class EndsOfTheRange(DeskCase):
    def test_c_at_both_ends(self):
        self.assertEqual(told(SPOT, 0, [(1, 0)], 0, 1), [0])
        self.assertEqual(told(SPOT, 0, [(FAR, 0)], 0, FAR), [0])
        self.assertEqual(told(SPOT, 0, [(FAR - 1, 0)], 0, FAR), [1, 0, 1])

    def test_all_as_far_out_as_it_goes(self):
        # The corners of the range are less than 3 * FAR and more than 2 * FAR apart.
        self.assertEqual(told([(-FAR, -FAR)], FAR, [(FAR, FAR)], FAR, FAR), [1, 0, 1])
        self.assertEqual(told([(-FAR, -FAR)], FAR, [(FAR, FAR)], FAR, 828427124), [0])
        self.assertEqual(told([(-FAR, -FAR)], FAR, [(FAR, FAR)], FAR, 828427125), [1, 0, 1])
        self.assertEqual(told([(-FAR, -FAR)], FAR, [(FAR, -FAR)], 0, FAR), [0])
        self.assertEqual(told([(-FAR, -FAR)], FAR - 1, [(FAR, -FAR)], 1, FAR), [0])
        self.assertEqual(told([(-FAR, -FAR)], FAR - 1, [(FAR, -FAR)], 2, FAR), [1, 0, 1])

    def test_only_just_beyond_and_only_just_within(self):
        # The first spot is farther from the bar than 2 * FAR by less than 10 ** -27, the
        # second nearer than that by less than 10 ** -8.
        bar = [(0, -FAR), (FAR, -FAR + 1)]
        self.assertEqual(told(bar, FAR, [(-1, FAR)], 0, FAR), [0])
        self.assertEqual(told(bar, FAR, [(0, FAR)], 0, FAR), [1, 0, 1])
        self.assertEqual(told(bar, FAR, [(-1, FAR)], 1, FAR), [1, 0, 1])

    def test_exactly_between_far_slanting_lines(self):
        bar = [(-600000000, -800000000), (600000000, 800000000)]
        self.assertEqual(told(bar, 0, [(-400000000, 300000000)], 0, 500000000), [0])
        self.assertEqual(told(bar, 0, [(-400000000, 300000000)], 0, 500000001), [1, 0, 1])
        self.assertEqual(told(bar, 0, [(-399999999, 300000000)], 0, 500000000), [1, 0, 1])

    def test_refusals(self):
        for c in (-HUGE, -FAR, -1, 0, FAR + 1, HUGE):
            self.check_refused(row((0, 5)), near(c), -9)
            self.check_answers([near(c)], [-9])
        for c in (1, 2, FAR - 1, FAR):
            self.check_answers([near(c)], [0])


class WhichPairs(DeskCase):
    def test_empty_boards(self):
        self.check_answers([near(5)], [0])
        self.check_answers(row((0, 2)) + [near(5), begin(2), near(5)], [1, 0, 1], [0], [0])

    def test_one_piece(self):
        self.check_answers(row((0,)) + [near(FAR)], [0])

    def test_pieces_that_touch(self):
        for one, other in ((SPOT, SPOT), (BAR, [(10, 0)]), (SQUARE, [(10, 10), (20, 20)]), (SQUARE, [(1, 1)]),
                           (CUP, [(7, 0), (8, 0), (8, 1)])):
            self.assertEqual(told(one, 0, other, 0, FAR), [0])

    def test_pieces_that_are_joined_by_others(self):
        self.check_answers(row((0, 1, 2)) + [near(FAR)], [0])
        self.check_answers(row((0, 1, 2)) + [near(3), remove(1), near(3), near(2)], [0], [0], [1, 0, 2], [0])
        # By a way over another layer.
        over = [add([(0, 0)], last=2), add([(8, 0)], last=2), add([(0, 0), (8, 0)], first=2, last=2)]
        self.check_answers(over[:2] + [near(9)], [1, 0, 1])
        self.check_answers(over + [near(9)], [0])

    def test_each_two_spans_of_layers(self):
        spans = [(f, t) for f in range(1, 5) for t in range(f, 5)]
        for first, end in spans:
            for start, stop in spans:
                common = set(range(first, end + 1)) & set(range(start, stop + 1))
                found = last([begin(4), add(SPOT, first=first, last=end), add([(3, 0)], first=start, last=stop),
                              near(4)])
                self.assertEqual(found, [1, 0, 1] if common else [0])

    def test_one_within_another_on_unlike_layers(self):
        for inner in ([(1, 2)], [(0, 0), (5, 5)], [(0, 0), (3, 0), (0, 3)], SQUARE):
            self.check_answers([add(SQUARE, first=1, last=1, r=2), add(inner, first=2, last=2), near(FAR)], [0])
            self.check_answers([add(inner, first=1, last=1), add(SQUARE, first=2, last=2, r=2), near(1)], [0])

    def test_nets_do_not_matter(self):
        self.check_answers(row((0, 2), (5, 5)) + [near(3), label(0, 0), near(3)], [1, 0, 1], [0], [1, 0, 1])

    def test_in_the_notch(self):
        self.assertEqual(told(CUP, 0, [(0, 0)], 0, 5), [0])
        self.assertEqual(told(CUP, 0, [(0, 0)], 0, 6), [1, 0, 1])
        self.assertEqual(told(CUP, 0, [(0, 50)], 0, 40), [0])


class TheList(DeskCase):
    def test_by_i_and_of_one_i_by_j(self):
        self.check_answers(row((0, 2, 4, 6)) + [near(3), near(7), near(11)],
                           [3, 0, 1, 1, 2, 2, 3], [5, 0, 1, 0, 2, 1, 2, 1, 3, 2, 3],
                           [6, 0, 1, 0, 2, 0, 3, 1, 2, 1, 3, 2, 3])
        self.check_answers(row((6, 2, 0, 4)) + [near(3)], [3, 0, 3, 1, 2, 1, 3])

    def test_numbers_of_two_and_three_figures(self):
        calls = row([20 * k for k in range(110)]) + [move(105, 2 - 40 * 105 + 2, 0), move(12, 4 - 40 * 12 - 8, 0)]
        self.check_answers(calls + [near(5)], [2, 0, 12, 0, 105])

    def test_numbers_that_are_free(self):
        self.check_answers(row((0, 2, 4, 6)) + [remove(1), near(7), add([(4, 0)], r=1), near(3)],
                           [0], [2, 0, 2, 2, 3], [1], [3, 0, 1, 1, 2, 2, 3])

    def test_the_whole_board(self):
        pairs = [(i, j) for i in range(128) for j in range(i + 1, 128)]
        self.check_answers(row(range(0, 256, 2)) + [near(FAR)], [len(pairs)] + [n for pair in pairs for n in pair])


# What was found out once must not be told of pieces that have changed since.
class AskedAgain(DeskCase):
    def test_with_other_distances(self):
        calls = [add(SPOT), add([(30, 40)]), add([(100, 0), (100, 9)])]
        asked = (51, 50, 49, 52, 1, FAR, 50, 51, 80, 81, 79, 100, 101, 50, 79, 80, 81)
        found = ask(calls + [near(c) for c in asked])[3:]
        self.assertEqual(found, [last(calls + [near(c)]) for c in asked])

    def test_after_a_move(self):
        self.check_answers(row((0, 5, 20)) + [near(9), near(8), move(1, 1, 0), near(9), move(1, -2, 0), near(8),
                                              move(0, -1, 0), near(9), near(8)],
                           [1, 0, 1], [0], [0], [0], [0], [1, 0, 1], [0], [1, 0, 1], [0])

    def test_another_piece_of_the_same_number(self):
        self.check_answers(row((0, 5)) + [near(9), near(8), remove(0), near(9), add([(3, 0)]), near(7), near(6)],
                           [1, 0, 1], [0], [0], [0], [0], [1, 0, 1], [0])
        self.check_answers(row((0, 5)) + [near(8), begin(2)] + row((0, 4)) + [near(8), near(6)],
                           [0], [0], [0], [1], [1, 0, 1], [0])

    def test_after_others_have_joined_them(self):
        bridge = add([(0, 1), (8, 1)])
        self.check_answers(row((0, 4)) + [near(7), bridge, near(7), label(2, 3), near(7), remove(2), near(7)],
                           [1, 0, 1], [2], [0], [0], [0], [0], [1, 0, 1])

    def test_nothing_is_changed(self):
        self.check_answers(row((0, 1, 5)) + [near(8), near(6), parts(), members(0), touching(1), touching(2)],
                           [1, 1, 2], [0], [2, 0, 2], [2, 0, 1], [1, 0], [0])


# A polygon with jagged upper and lower rims.
def saw_blade(lot, size, counts):
    left, middle = lot.randrange(-size, size), lot.randrange(-size, size)
    across = [left + k * (size // 20) for k in range(lot.choice(counts) // 2)]
    upper = [(x, middle + 1 + lot.randrange(size // 5)) for x in across]
    return upper + [(x, middle - lot.randrange(size // 5)) for x in across[::-1]]


class AgainstAnotherWay(DeskCase):
    def check_by_lot(self, seed, size, radius, pieces, rounds, skeleton=some_skeleton, counts=(1, 2, 3, 4, 5)):
        lot = Random(seed)
        for at in range(rounds):
            board = [(skeleton(lot, size, counts), lot.randrange(radius + 1)) for k in range(pieces)]
            calls = [add(points, r=r) for points, r in board]
            least = [row[1] for row in ask(calls + [members(i) for i in range(pieces)])[pieces:]]
            asked = [lot.randrange(1, size + 1) for k in range(20)]
            found = ask(calls + [near(c) for c in asked])[pieces:]
            gaps = {(i, j): least_square(board[i][0], board[j][0]) for i in range(pieces)
                    for j in range(i + 1, pieces) if least[i] != least[j]}
            for c, answer in zip(asked, found):
                pairs = [(i, j) for i, j in sorted(gaps) if gaps[i, j] < (board[i][1] + board[j][1] + c) ** 2]
                self.assertEqual(answer, [len(pairs)] + [n for pair in pairs for n in pair], board)

    def test_a_small_grid(self):
        self.check_by_lot(61, 12, 1, 8, 25)

    def test_a_wider_grid(self):
        self.check_by_lot(62, 60, 4, 10, 25)

    def test_the_whole_range(self):
        self.check_by_lot(63, FAR, FAR // 20, 8, 15)

    def test_many_corners(self):
        self.check_by_lot(64, 100, 2, 8, 5, saw_blade, (4, 10, 32))
        self.check_by_lot(65, FAR // 2, FAR // 100, 8, 5, saw_blade, (4, 10, 32))
