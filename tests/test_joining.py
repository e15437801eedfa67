"""joined, members, parts, chain, reach: what touching makes of the board."""

from itertools import permutations
from random import Random

from tests.helper import (
    HUGE, DeskCase, add, ask, begin, chain, grid, joined, last, members, move, parts, reach, remove, row, touching,
)

NO_PIECES = (-HUGE, -128, -1, 5, 127, 128, HUGE)
FIVE = row((0, 1, 2, 10, 11))


class Joined(DeskCase):
    def test_along_a_row(self):
        for i in range(5):
            for j in range(5):
                same = (i < 3) == (j < 3)
                self.check_answers(FIVE + [joined(i, j)], [1 if same else 0])

    def test_with_itself(self):
        self.check_answers([add([(0, 0)]), joined(0, 0)], [1])

    def test_refusals(self):
        for i in NO_PIECES:
            self.check_refused(FIVE, joined(i, 0), -2)
            self.check_refused(FIVE, joined(0, i), -2)
            self.check_refused(FIVE, joined(i, i), -2)
        self.check_answers(FIVE + [remove(4), joined(3, 4), joined(4, 4)], [-2], [-2])


class Members(DeskCase):
    def test_along_a_row(self):
        found = ask(FIVE + [members(i) for i in range(5)])[5:]
        self.assertEqual(found, [[3, 0, 1, 2]] * 3 + [[2, 3, 4]] * 2)

    def test_rising_whatever_the_way(self):
        self.check_answers(row((3, 0, 2, 9, 1)) + [members(2), members(3)], [4, 0, 1, 2, 4], [1, 3])

    def test_refusals(self):
        for i in NO_PIECES:
            self.check_refused(FIVE, members(i), -2)


class Parts(DeskCase):
    def test_none(self):
        self.check_answers([parts()], [0])
        self.check_answers([begin(5), parts()], [0])

    def test_by_their_least_pieces(self):
        self.check_answers(FIVE + [parts()], [2, 0, 3])
        self.check_answers(row((10, 0, 11, 1, 20)) + [parts()], [3, 0, 1, 4])
        self.check_answers(row((10, 0, 11, 1, 20)) + [remove(0), parts()], [3, 1, 2, 4])

    def test_after_changes(self):
        self.check_answers(FIVE + [remove(1), parts(), move(3, -16, 0), parts(), move(0, 1000, 0), parts()],
                           [0], [3, 0, 2, 3], [0], [3, 0, 2, 4], [0], [3, 0, 2, 4])
        self.check_answers(FIVE + [move(3, -14, 0), parts(), move(3, 14, 0), parts()],
                           [0], [2, 0, 4], [0], [2, 0, 3])

    def test_a_number_that_is_taken_again(self):
        again = row((0, 10, 11, 20)) + [remove(0)]
        self.check_answers(again + row((30,)) + [parts()], [3, 0, 1, 3])
        self.check_answers(again + row((12,)) + [parts(), members(2)], [2, 0, 3], [3, 0, 1, 2])
        self.check_answers(again + row((19,)) + [parts(), members(3)], [2, 0, 1], [2, 0, 3])

    def test_128_parts(self):
        self.check_answers(row(range(0, 256, 2)) + [parts()], [128] + list(range(128)))


class Chain(DeskCase):
    def test_along_a_row(self):
        self.check_answers(FIVE + [chain(0, 2)], [3, 0, 1, 2])
        self.check_answers(FIVE + [chain(2, 0)], [3, 2, 1, 0])
        self.check_answers(FIVE + [chain(3, 4)], [2, 3, 4])
        self.check_answers(row((0, 3, 1, 2)) + [chain(0, 1)], [4, 0, 2, 3, 1])

    def test_no_chain(self):
        self.check_answers(FIVE + [chain(0, 3)], [0])
        self.check_answers(FIVE + [chain(4, 2)], [0])

    def test_i_and_j_alike(self):
        for i in range(5):
            self.check_answers(FIVE + [chain(i, i)], [1, i])
        self.check_answers([add([(0, 0)]), chain(0, 0)], [1, 0])

    def test_the_fewest_pieces_though_their_numbers_are_great(self):
        # 0 - 1 - 2 - 3 along the row, and 4 bridges 0 and 3.
        self.check_answers(row((0, 1, 2, 3)) + [add([(0, 1), (6, 1)]), chain(0, 3), chain(3, 0)],
                           [3, 0, 4, 3], [3, 3, 4, 0])

    def test_the_first_in_the_order_of_its_numbers_from_i_on(self):
        # Two ways round: 0 - 1 - 4 - 5 and 0 - 2 - 3 - 5.
        ring = [add([(0, 0)], r=5), add([(10, 10)], r=10), add([(10, -10)], r=10), add([(30, -10)], r=10),
                add([(30, 10)], r=10), add([(40, 0)], r=5)]
        self.check_answers(ring + [chain(0, 5), chain(5, 0)], [4, 0, 1, 4, 5], [4, 5, 3, 2, 0])

    def test_the_least_next_piece_may_lead_nowhere(self):
        # 0 touches 1, 2 and 3; 1 is a dead end, 2 a way about, 3 the way.
        calls = [add([(0, 0)], r=5), add([(0, 8)], r=3), add([(0, -8)], r=3), add([(8, 0)], r=3),
                 add([(14, 0)], r=3)]
        self.check_answers(calls + [chain(0, 4), chain(1, 4)], [3, 0, 3, 4], [4, 1, 0, 3, 4])

    def test_whole_board(self):
        self.check_answers(row(range(128)) + [chain(0, 127), chain(127, 0)],
                           [128] + list(range(128)), [128] + list(range(127, -1, -1)))

    def test_refusals(self):
        for i in NO_PIECES:
            self.check_refused(FIVE, chain(i, 0), -2)
            self.check_refused(FIVE, chain(0, i), -2)
            self.check_refused(FIVE, chain(i, i), -2)


class Reach(DeskCase):
    def test_step_by_step(self):
        five = row((2, 1, 0, 3, 9))
        found = ask(five + [reach(2, k) for k in range(5)])[5:]
        self.assertEqual(found, [[1, 2], [2, 1, 2], [3, 0, 1, 2], [4, 0, 1, 2, 3], [4, 0, 1, 2, 3]])

    def test_k_0_is_the_piece_itself(self):
        for i in range(5):
            self.check_answers(FIVE + [reach(i, 0)], [1, i])

    def test_k_128(self):
        self.check_answers(FIVE + [reach(0, 128), reach(4, 128)], [3, 0, 1, 2], [2, 3, 4])
        whole = row(range(128))
        self.check_answers(whole + [reach(0, 126), reach(0, 127), reach(0, 128)],
                           [127] + list(range(127)), [128] + list(range(128)), [128] + list(range(128)))

    def test_refusals(self):
        for k in (-HUGE, -1, 129, HUGE):
            self.check_refused(FIVE, reach(0, k), -9)
        for i in NO_PIECES:
            for k in (-HUGE, -1, 0, 128, 129, HUGE):
                self.check_refused(FIVE, reach(i, k), -2)


# The same told from what touches alone, in ways that need not be quick.
def all_chains(near, i, j):
    found = []
    others = [k for k in near if k not in (i, j)]
    if i == j:
        return [[i]]
    for count in range(len(others) + 1):
        for middle in permutations(others, count):
            way = [i] + list(middle) + [j]
            if all(way[k + 1] in near[way[k]] for k in range(len(way) - 1)):
                found.append(way)
    return found


class AgainstAnotherWay(DeskCase):
    def test_small_boards_by_lot(self):
        lot = Random(41)
        for at in range(25):
            calls = [add([(lot.randrange(30), lot.randrange(30))], r=lot.randrange(3, 8)) for k in range(7)]
            gone = lot.randrange(7)
            calls.append(remove(gone))
            left = [i for i in range(7) if i != gone]
            near = {i: last(calls + [touching(i)])[1:] for i in left}
            self.check_board(calls, left, near)

    def check_board(self, calls, left, near):
        ways = {(i, j): all_chains(near, i, j) for i in left for j in left}
        pairs = [(i, j) for i in left for j in left]
        found = ask(calls + [chain(i, j) for i, j in pairs] + [joined(i, j) for i, j in pairs])[len(calls):]
        for k, pair in enumerate(pairs):
            best = min(ways[pair], key=lambda way: (len(way), way), default=[])
            self.assertEqual(found[k], [len(best)] + best)
            self.assertEqual(found[len(pairs) + k], [1 if best else 0])
        for i in left:
            together = [j for j in left if ways[i, j]]
            self.check_answers(calls + [members(i)], [len(together)] + together)
            for k in range(7):
                within = [j for j in together if min(len(way) for way in ways[i, j]) <= k + 1]
                self.check_answers(calls + [reach(i, k)], [len(within)] + within)
        least = sorted({min(j for j in left if ways[i, j]) for i in left})
        self.check_answers(calls + [parts()], [len(least)] + least)

    def test_grids_of_bars_and_barrels(self):
        lot = Random(42)
        for at in range(10):
            links = [(i, j) for i in range(8) for j in range(8) if lot.randrange(6) == 0]
            calls = grid(links, 8, 8)
            groups = {k: k for k in range(16)}
            for i, j in links:
                old, new = groups[i], groups[8 + j]
                groups = {k: new if group == old else group for k, group in groups.items()}
            found = ask(calls + [joined(0, k) for k in range(16)])[len(calls):]
            self.assertEqual(found, [[1 if groups[k] == groups[0] else 0] for k in range(16)])
            self.assertEqual(last(calls + [parts()])[0], len(set(groups.values())))
