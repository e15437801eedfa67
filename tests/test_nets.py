"""shorts, opens, loose, nets, clean: the nets of pieces against what is joined."""

from tests.helper import (
    FAR, DeskCase, add, all_pieces, ask, begin, clean, label, loose, members, move, nets, opens, parts, remove,
    row, shorts,
)

# The parts are 0 and 1, 2 alone, and 3 to 5; between them there's a free place.
PLACES = (0, 1, 3, 5, 6, 7)
ASKED = (shorts(), opens(), loose(), nets(), clean())


def told(calls):
    return ask(calls + list(ASKED))[-len(ASKED):]


def board(*of_nets):
    return row(PLACES, of_nets)


class EmptyBoard(DeskCase):
    def test_a_new_one(self):
        self.assertEqual(told([]), [[0], [0], [0], [0], [1]])

    def test_one_that_has_lost_its_pieces(self):
        self.assertEqual(told(row((0, 1), (5, 6)) + [remove(0), remove(1)]), [[0], [0], [0], [0], [1]])
        self.assertEqual(told(row((0, 1), (5, 6)) + [begin(3)]), [[0], [0], [0], [0], [1]])


class Shorts(DeskCase):
    def test_no_net_and_one_net(self):
        self.check_answers(board(0, 0, 0, 0, 0, 0) + [shorts()], [0])
        self.check_answers(board(4, 4, 5, 6, 6, 6) + [shorts()], [0])

    def test_net_0_is_not_counted(self):
        self.check_answers(board(0, 4, 0, 6, 0, 6) + [shorts()], [0])
        self.check_answers(board(0, 4, 0, 6, 0, 7) + [shorts()], [1, 3, 2, 6, 7])

    def test_two_and_more_nets(self):
        self.check_answers(board(4, 5, 0, 0, 0, 0) + [shorts()], [1, 0, 2, 4, 5])
        self.check_answers(board(0, 0, 0, 1, 2, 3) + [shorts()], [1, 3, 3, 1, 2, 3])
        self.check_answers(board(8, 7, 9, 3, 2, 1) + [shorts()], [2, 0, 2, 7, 8, 3, 3, 1, 2, 3])

    def test_nets_in_order_and_each_once(self):
        self.check_answers(row(range(6), (9, FAR, 3, 9, 0, 3)) + [shorts()], [1, 0, 3, 3, 9, FAR])
        self.check_answers(row(range(5), (100, 20, 3, 20, 100)) + [shorts()], [1, 0, 3, 3, 20, 100])

    def test_by_the_least_piece_whatever_its_net(self):
        self.check_answers(row((5, 0, 6, 7), (1, 0, 0, 2)) + [shorts()], [1, 0, 2, 1, 2])
        self.check_answers(row((5, 0, 4, 6), (0, 2, 8, 7)) + [shorts()], [1, 0, 2, 7, 8])
        self.check_answers(row((0, 9, 8), (1, 2, 3)) + [shorts()], [1, 1, 2, 2, 3])

    def test_parts_in_order_of_their_least_pieces(self):
        self.check_answers(row((9, 0, 1, 10, 20, 21), (1, 2, 3, 4, 5, 6)) + [shorts()],
                           [3, 0, 2, 1, 4, 1, 2, 2, 3, 4, 2, 5, 6])

    def test_unlike_nets_that_do_not_touch_each_other(self):
        self.check_answers(row((0, 1, 2), (1, 0, 2)) + [shorts()], [1, 0, 2, 1, 2])

    def test_unlike_layers_and_a_barrel(self):
        two = [add([(0, 0)], net=1, r=5), add([(0, 0)], net=2, first=2, last=2, r=5)]
        self.check_answers(two + [shorts(), add([(3, 0)], last=2), shorts()], [0], [2], [1, 0, 2, 1, 2])

    def test_after_changes(self):
        self.check_answers(
            board(1, 2, 3, 4, 4, 4) + [shorts(), label(1, 1), shorts(), label(4, 9), shorts(), label(4, 0), shorts(),
                                       move(2, -2, 0), shorts(), remove(1), shorts(), move(2, -2, 0), shorts()],
            [1, 0, 2, 1, 2], [0], [0], [0], [1, 3, 2, 4, 9], [0], [0],
            [0], [1, 0, 2, 1, 3], [0], [0], [0], [1, 0, 2, 1, 3])


class Opens(DeskCase):
    def test_a_net_in_one_part_only(self):
        self.check_answers(board(4, 4, 5, 6, 6, 6) + [opens()], [0])
        self.check_answers(board(4, 5, 0, 6, 7, 6) + [opens()], [0])

    def test_in_two_and_more_parts(self):
        self.check_answers(board(4, 0, 4, 0, 0, 0) + [opens()], [1, 4, 2, 0, 2])
        self.check_answers(board(0, 4, 4, 0, 4, 0) + [opens()], [1, 4, 3, 0, 2, 3])
        self.check_answers(row(range(0, 12, 2), [FAR] * 6) + [opens()], [1, FAR, 6, 0, 1, 2, 3, 4, 5])

    def test_net_0_is_never_told(self):
        self.check_answers(board(0, 0, 0, 0, 0, 0) + [opens()], [0])
        self.check_answers(board(0, 1, 0, 0, 0, 0) + [opens()], [0])

    def test_by_the_least_pieces_whatever_their_nets(self):
        self.check_answers(board(9, 4, 0, 0, 0, 4) + [opens()], [1, 4, 2, 0, 3])
        self.check_answers(board(0, 4, 0, 8, 7, 4) + [opens()], [1, 4, 2, 0, 3])

    def test_each_part_once(self):
        self.check_answers(board(4, 4, 4, 4, 4, 4) + [opens()], [1, 4, 3, 0, 2, 3])

    def test_nets_in_order(self):
        self.check_answers(board(9, 4, 9, 100, 4, 0) + [opens()], [2, 4, 2, 0, 3, 9, 2, 0, 2])
        self.check_answers(board(100, 20, 20, 100, 3, 3) + [opens()], [2, 20, 2, 0, 2, 100, 2, 0, 3])

    def test_parts_in_order_though_found_in_another(self):
        self.check_answers(row((9, 0, 20, 1, 10), (0, 0, 5, 5, 5)) + [opens()], [1, 5, 3, 0, 1, 2])

    def test_after_changes(self):
        self.check_answers(
            board(4, 0, 4, 0, 0, 0) + [opens(), move(2, -2, 0), opens(), remove(1), opens(), label(0, 3), opens(),
                                       label(5, 4), opens(), remove(2), opens(), move(0, 500, 0), opens()],
            [1, 4, 2, 0, 2], [0], [0], [0], [1, 4, 2, 0, 2], [0], [0],
            [0], [1, 4, 2, 2, 3], [0], [0], [0], [0])


class Loose(DeskCase):
    def test_parts_that_have_no_net(self):
        self.check_answers(board(0, 0, 0, 0, 0, 0) + [loose()], [6, 0, 1, 2, 3, 4, 5])
        self.check_answers(board(0, 0, 1, 0, 0, 0) + [loose()], [5, 0, 1, 3, 4, 5])
        self.check_answers(board(0, 0, 0, 0, 0, 2) + [loose()], [3, 0, 1, 2])
        self.check_answers(board(0, 2, 0, 0, 1, 0) + [loose()], [1, 2])

    def test_none(self):
        self.check_answers(board(1, 0, 2, 0, 3, 0) + [loose()], [0])
        self.check_answers(board(1, 1, 1, 1, 1, 1) + [loose()], [0])

    def test_rising_though_parts_are_mixed(self):
        self.check_answers(row((9, 0, 20, 1, 10), (0, 0, 5, 0, 0)) + [loose()], [4, 0, 1, 3, 4])

    def test_after_changes(self):
        self.check_answers(
            board(0, 1, 0, 0, 2, 0) + [loose(), remove(1), loose(), move(2, 2, 0), loose(), label(4, 0), loose(),
                                       label(0, FAR), loose(), remove(4), loose()],
            [1, 2], [0], [2, 0, 2], [0], [1, 0], [0], [5, 0, 2, 3, 4, 5],
            [0], [4, 2, 3, 4, 5], [0], [3, 2, 3, 5])


class Nets(DeskCase):
    def test_pieces_without_a_net(self):
        self.check_answers(board(0, 0, 0, 0, 0, 0) + [nets()], [0])
        self.check_answers(board(0, 0, 7, 0, 0, 0) + [nets()], [1, 7, 1, 1])

    def test_how_many_pieces_and_parts(self):
        self.check_answers(board(7, 7, 0, 0, 0, 0) + [nets()], [1, 7, 2, 1])
        self.check_answers(board(7, 7, 7, 7, 7, 7) + [nets()], [1, 7, 6, 3])
        self.check_answers(board(7, 5, 7, 5, 0, 5) + [nets()], [2, 5, 3, 2, 7, 2, 2])

    def test_in_order(self):
        self.check_answers(board(100, 20, 3, FAR, 1, 20) + [nets()],
                           [5, 1, 1, 1, 3, 1, 1, 20, 2, 2, 100, 1, 1, FAR, 1, 1])

    def test_128_nets(self):
        calls = row(range(128), range(128, 0, -1))
        self.check_answers(calls + [nets()], [128] + [n for net in range(1, 129) for n in (net, 1, 1)])
        self.check_answers(calls + [shorts()], [1, 0, 128] + list(range(1, 129)))

    def test_after_changes(self):
        self.check_answers(
            board(7, 7, 7, 0, 0, 0) + [nets(), remove(1), nets(), move(2, -4, 0), nets(), label(0, 1), nets(),
                                       label(2, 0), nets()],
            [1, 7, 3, 2], [0], [1, 7, 2, 2], [0], [1, 7, 2, 1], [0], [2, 1, 1, 1, 7, 1, 1], [0], [1, 1, 1, 1])


class Clean(DeskCase):
    def test_nothing_wrong(self):
        self.check_answers(board(0, 0, 0, 0, 0, 0) + [clean()], [1])
        self.check_answers(board(4, 4, 5, 6, 0, 6) + [clean()], [1])

    def test_a_short_alone(self):
        self.assertEqual(told(board(4, 5, 0, 6, 6, 6)),
                         [[1, 0, 2, 4, 5], [0], [1, 2], [3, 4, 1, 1, 5, 1, 1, 6, 3, 1], [0]])

    def test_an_open_alone(self):
        self.assertEqual(told(board(4, 4, 4, 6, 6, 6)),
                         [[0], [1, 4, 2, 0, 2], [0], [2, 4, 3, 2, 6, 3, 1], [0]])

    def test_both(self):
        self.check_answers(board(4, 5, 4, 6, 6, 6) + [clean()], [0])

    def test_after_changes(self):
        self.check_answers(
            board(4, 4, 4, 6, 6, 6) + [clean(), move(2, -2, 0), clean(), label(1, 5), clean(), label(1, 0), clean(),
                                       remove(1), clean(), remove(0), clean()],
            [0], [0], [1], [0], [0], [0], [1], [0], [0], [0], [1])


class AllPieces(DeskCase):
    def test_empty_boards(self):
        self.check_answers([all_pieces()], [0])
        self.check_answers(row((0, 5)) + [begin(1), all_pieces()], [0])

    def test_after_adds_and_removes(self):
        self.check_answers(
            row(PLACES) + [all_pieces(), remove(2), all_pieces(), remove(0), all_pieces(), add([(0, 0)]), all_pieces(),
                           add([(0, 0)]), add([(0, 0)]), all_pieces(), remove(6), all_pieces()],
            [6, 0, 1, 2, 3, 4, 5], [0], [5, 0, 1, 3, 4, 5], [0], [4, 1, 3, 4, 5], [0], [5, 0, 1, 3, 4, 5],
            [2], [6], [7, 0, 1, 2, 3, 4, 5, 6], [0], [6, 0, 1, 2, 3, 4, 5])

    def test_a_refused_add_and_a_full_board(self):
        self.check_answers(row((0,)) + [add([(0, 0)], net=-1), all_pieces()], [-3], [1, 0])
        self.check_answers(row(range(128)) + [add([(0, 0)]), all_pieces()], [-10], [128] + list(range(128)))


class NothingIsChanged(DeskCase):
    def test_asking_twice(self):
        calls = board(4, 5, 4, 0, 0, 0)
        first = told(calls)
        self.assertEqual(told(calls + list(ASKED) * 3 + [all_pieces()]), first)
        self.check_answers(calls + list(ASKED) + [parts(), members(5)], [3, 0, 2, 3], [3, 3, 4, 5])
