"""begin, add, remove, label, move, piece: answers, refusals, and what they change."""

from tests.helper import (
    FAR, HUGE, DeskCase, add, add_numbers, ask, begin, chain, joined, label, last, members, move,
    parts, piece, questions, reach, remove, touching,
)

SQUARE = [(0, 0), (10, 0), (10, 10), (0, 10)]
SOME = [
    begin(3),
    add(SQUARE, net=7, first=1, last=2, r=1),
    add([(5, 5)], net=8, first=2, last=3),
    add([(100, 0), (200, 0)], net=0, first=1, last=3, r=5),
]
NO_PIECES = (-HUGE, -129, -128, -3, -2, -1, 3, 127, 128, 129, HUGE)


class Begin(DeskCase):
    def test_a_new_line_has_two_layers_and_no_pieces(self):
        self.check_answers([add([(0, 0)], first=1, last=2)], [0])
        self.check_answers([add([(0, 0)], first=1, last=3)], [-4])
        self.check_answers([parts(), piece(0)], [0], [-2])

    def test_each_number_of_layers(self):
        for layers in range(1, 17):
            self.check_answers(
                [begin(layers), add([(0, 0)], last=layers), add([(0, 0)], last=layers + 1)],
                [0], [0], [-4])

    def test_the_pieces_are_gone(self):
        self.check_answers(SOME + [begin(2), parts(), piece(0), piece(1), add([(1, 1)]), touching(0)],
                           [0], [0], [-2], [-2], [0], [0])

    def test_begin_with_the_same_layers_again(self):
        self.check_answers(SOME + [begin(3), parts()], [0], [0])

    def test_refusals(self):
        for layers in (-HUGE, -16, -1, 0, 17, 18, HUGE):
            self.check_refused(SOME, begin(layers), -1)


class Add(DeskCase):
    def test_numbers_rise(self):
        self.assertEqual(ask([add([(k, 0)]) for k in range(5)]), [[0], [1], [2], [3], [4]])

    def test_the_least_free_number_is_taken(self):
        five = [add([(k, 0)]) for k in range(5)]
        self.check_answers(
            five + [remove(3), remove(1), add([(9, 9)]), add([(8, 8)]), add([(7, 7)]), piece(1), piece(3)],
            [1], [3], [5], [0, 1, 1, 0, 9, 9], [0, 1, 1, 0, 8, 8])

    def test_ends_of_the_ranges(self):
        corner = [(-FAR, -FAR), (FAR, -FAR), (FAR, FAR), (-FAR, FAR)]
        self.check_answers(
            [begin(16), add(corner, net=FAR, first=16, last=16, r=FAR), piece(0)],
            [0], [FAR, 16, 16, FAR, -FAR, -FAR, FAR, -FAR, FAR, FAR, -FAR, FAR])
        self.check_answers([add([(0, 0)], net=0, first=1, last=1, r=0), piece(0)], [0], [0, 1, 1, 0, 0, 0])
        self.check_answers([add([(FAR, -FAR)], net=1, r=1), piece(0)], [0], [1, 1, 1, 1, FAR, -FAR])

    def test_wrong_net(self):
        for net in (-HUGE, -1, FAR + 1, HUGE):
            self.check_refused(SOME, add([(0, 0)], net=net), -3)

    def test_wrong_layers(self):
        wrong = ((0, 1), (-1, 2), (1, 4), (2, 1), (3, 2), (4, 4), (0, 0), (-HUGE, HUGE), (1, HUGE),
                 (HUGE, HUGE), (1, 0), (1, -HUGE), (3, 1))
        for ends in wrong:
            self.check_refused(SOME, add([(0, 0)], first=ends[0], last=ends[1]), -4)

    def test_layers_0_1_16_17(self):
        for layer, answer in ((0, -4), (1, 0), (16, 0), (17, -4)):
            self.check_answers([begin(16), add([(0, 0)], first=layer, last=layer)], [answer])

    def test_every_two_layers_within_the_board_are_taken(self):
        for first in range(1, 4):
            for end in range(first, 4):
                self.check_answers(SOME + [add([(0, 0)], first=first, last=end), piece(3)],
                                   [3], [0, first, end, 0, 0, 0])

    def test_wrong_radius(self):
        for r in (-HUGE, -1, FAR + 1, HUGE):
            self.check_refused(SOME, add([(0, 0)], r=r), -5)

    def test_counts_of_numbers_from_0_to_100(self):
        for count in range(101):
            half = max(count // 2, 1)
            # Corners on a parabola: each simple polygon of as many corners as are asked for.
            numbers = [c for k in range(half + 1) for c in (k, k * k)][:count]
            allowed = count % 2 == 0 and 2 <= count <= 64
            self.check_answers([add_numbers(numbers)], [0] if allowed else [-6])
            if not allowed:
                self.check_refused(SOME, add_numbers(numbers), -6)

    def test_a_coordinate_out_of_range(self):
        for wrong in (-HUGE, -FAR - 1, FAR + 1, HUGE):
            for place in range(8):
                numbers = [0, 0, 10, 0, 10, 10, 0, 10]
                numbers[place] = wrong
                self.check_refused(SOME, add_numbers(numbers), -7)
            self.check_refused(SOME, add([(wrong, 0)]), -7)
            self.check_refused(SOME, add([(0, wrong)]), -7)
            self.check_refused(SOME, add([(0, 0), (wrong, 1)]), -7)

    def test_the_refusal_nearest_to_0(self):
        bad = dict(net=-1, first=0, last=9, r=-1)
        odd_and_far = [HUGE, HUGE, HUGE]
        far_alike = [HUGE, 0, HUGE, 0]
        alike = [1, 1, 1, 1]
        self.check_refused(SOME, add_numbers(odd_and_far, **bad), -3)
        bad["net"] = 0
        self.check_refused(SOME, add_numbers(odd_and_far, **bad), -4)
        bad["first"] = 1
        bad["last"] = 1
        self.check_refused(SOME, add_numbers(odd_and_far, **bad), -5)
        bad["r"] = 0
        self.check_refused(SOME, add_numbers(odd_and_far, **bad), -6)
        self.check_refused(SOME, add_numbers([], **bad), -6)
        self.check_refused(SOME, add_numbers(far_alike, **bad), -7)
        self.check_refused(SOME, add_numbers(alike, **bad), -8)

    def test_a_full_board(self):
        full = [add([(10 * k, 0)]) for k in range(128)]
        self.assertEqual(ask(full), [[k] for k in range(128)])
        due = [
            add([(0, 5)]), add_numbers([1, 1, 1, 1]), add([(FAR + 1, 0)]), add_numbers([1]),
            add([(0, 0)], r=-1), add([(0, 0)], last=3), add([(0, 0)], net=-1),
            add_numbers([1] * 65, net=-1, first=0, r=-1),
        ]
        self.check_answers(full + due, [-10], [-8], [-7], [-6], [-5], [-4], [-3], [-3])
        self.check_answers(full + [add([(0, 5)]), piece(127), parts()],
                           [-10], [0, 1, 1, 0, 1270, 0], [128] + list(range(128)))
        self.check_answers(full + [remove(77), add([(1, 1)]), add([(2, 2)])], [0], [77], [-10])
        self.check_answers(full + [remove(127), remove(0), add([(1, 1)]), add([(2, 2)]), add([(2, 2)])],
                           [0], [0], [0], [127], [-10])


class Remove(DeskCase):
    def test_the_piece_is_gone_and_the_others_stay(self):
        self.check_answers(SOME + [remove(1), piece(0), piece(1), piece(2), touching(0), parts()],
                           [0], [7, 1, 2, 1, 0, 0, 10, 0, 10, 10, 0, 10], [-2],
                           [0, 1, 3, 5, 100, 0, 200, 0], [0], [2, 0, 2])

    def test_what_it_held_together_falls_apart(self):
        row = [add([(4 * k, 0)], r=2) for k in range(3)]
        self.check_answers(row + [joined(0, 2), remove(1), joined(0, 2), members(2), add([(4, 0)], r=2),
                                  joined(0, 2)],
                           [1], [0], [0], [1, 2], [1], [1])

    def test_twice(self):
        self.check_answers(SOME + [remove(0), remove(0)], [0], [-2])

    def test_refusals(self):
        for i in NO_PIECES:
            self.check_refused(SOME, remove(i), -2)


class Label(DeskCase):
    def test_the_net_is_changed_alone(self):
        self.check_answers(SOME + [label(0, 99), piece(0), label(0, 0), piece(0), piece(1)],
                           [0], [99, 1, 2, 1, 0, 0, 10, 0, 10, 10, 0, 10],
                           [0], [0, 1, 2, 1, 0, 0, 10, 0, 10, 10, 0, 10], [8, 2, 3, 0, 5, 5])

    def test_the_greatest_net(self):
        self.check_answers(SOME + [label(1, FAR), piece(1)], [0], [FAR, 2, 3, 0, 5, 5])

    def test_touching_does_not_look_at_nets(self):
        self.check_answers(SOME + [label(0, 5), label(1, 6), touching(0), label(1, 5), touching(0)],
                           [0], [0], [1, 1], [0], [1, 1])

    def test_refusals(self):
        for i in NO_PIECES:
            self.check_refused(SOME, label(i, 1), -2)
            self.check_refused(SOME, label(i, -1), -2)
            self.check_refused(SOME, label(i, FAR + 1), -2)
        for net in (-HUGE, -1, FAR + 1, HUGE):
            self.check_refused(SOME, label(1, net), -3)


class Move(DeskCase):
    def test_each_point_moves(self):
        self.check_answers(SOME + [move(0, -3, 20), piece(0), piece(1)],
                           [0], [7, 1, 2, 1, -3, 20, 7, 20, 7, 30, -3, 30], [8, 2, 3, 0, 5, 5])

    def test_nothing_moves_by_0(self):
        self.check_answers(SOME + [move(2, 0, 0), piece(2), touching(2)],
                           [0], [0, 1, 3, 5, 100, 0, 200, 0], [0])

    def test_touching_goes_with_it(self):
        self.check_answers(SOME + [touching(1), move(1, 90, 0), touching(0), touching(1), touching(2),
                                   move(1, 5, 0), touching(2), move(1, -90, 0), touching(0), touching(2)],
                           [1, 0], [0], [0], [0], [0], [0], [1, 1], [0], [1, 1], [0])

    def test_to_the_ends_of_the_range(self):
        self.check_answers([add(SQUARE), move(0, FAR - 10, -FAR), piece(0), move(0, -2 * FAR + 10, 2 * FAR - 10),
                            piece(0)],
                           [0], [0, 1, 1, 0, FAR - 10, -FAR, FAR, -FAR, FAR, -FAR + 10, FAR - 10, -FAR + 10],
                           [0], [0, 1, 1, 0, -FAR, FAR - 10, 10 - FAR, FAR - 10, 10 - FAR, FAR, -FAR, FAR])

    def test_a_round_rim_may_leave_the_range(self):
        self.check_answers([add([(FAR, FAR)], r=FAR), move(0, -2 * FAR, 0), piece(0)],
                           [0], [0], [0, 1, 1, FAR, -FAR, FAR])

    def test_refusals(self):
        for i in NO_PIECES:
            self.check_refused(SOME, move(i, 1, 1), -2)
            self.check_refused(SOME, move(i, HUGE, -HUGE), -2)
        for dx, dy in ((FAR - 9, 0), (-FAR - 1, 0), (0, FAR - 9), (0, -FAR - 1), (HUGE, 0), (-HUGE, 0),
                       (0, HUGE), (0, -HUGE), (HUGE, -HUGE)):
            self.check_refused(SOME, move(0, dx, dy), -7)


class Piece(DeskCase):
    def test_its_numbers_in_order(self):
        self.check_answers(SOME + [piece(0)], [7, 1, 2, 1, 0, 0, 10, 0, 10, 10, 0, 10])
        self.check_answers(SOME + [piece(1)], [8, 2, 3, 0, 5, 5])
        self.check_answers(SOME + [piece(2)], [0, 1, 3, 5, 100, 0, 200, 0])

    def test_32_corners(self):
        corners = [(k, k * k) for k in range(32)]
        answer = last([add(corners), piece(0)])
        self.assertEqual(answer, [0, 1, 1, 0] + [c for point in corners for c in point])

    def test_refusals(self):
        for i in NO_PIECES:
            self.check_refused(SOME, piece(i), -2)


class NothingElseChanges(DeskCase):
    def test_calls_that_only_tell(self):
        asked = [piece(0), touching(0), joined(0, 1), members(1), parts(), chain(0, 1), reach(0, 5)]
        after = questions(4)
        self.assertEqual(ask(SOME + asked + after)[-len(after):], ask(SOME + after)[-len(after):])
