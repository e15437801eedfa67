"""How calls stand in the list that is handed in, and answers in the one that is given back."""

import contextlib
import io
import time
import unittest

import copperboarddesk
from copperboarddesk import desk
from copperboarddesk.desk import answers

from tests.helper import (
    HUGE, add, all_pieces, ask, begin, chain, clean, cuts, flat, joined, label, last, levels, loose, members, move,
    near, needed, nets, opens, parts, piece, point, reach, remove, shorts, touching,
)

LINE = [
    begin(4), add([(0, 0), (9, 0), (0, 9)], net=3, first=1, last=2, r=1), add([(9, 9), (0, 9)], first=2, last=4),
    add([(50, 50)]), piece(0), piece(1), touching(0), joined(0, 1), members(0), parts(), chain(1, 0),
    reach(0, 0), label(0, 7), move(1, 1, 0), remove(2), piece(2), add([(0, 0), (0, 0)]),
    add([(5, 11)], net=3, first=2, last=2, r=2), add([(0, -9), (0, -8)], net=3, first=2, last=3), shorts(), opens(),
    loose(), cuts(), needed(0, 2), point(2, 5, 9), levels(1), near(8), near(7), nets(), clean(), all_pieces(),
    needed(0, 4), point(5, HUGE, 0), point(4, HUGE, 0), levels(4), near(0),
]


class Told(list):
    """A list that tells of whoever tries to change it."""

    def refuse(self, *given):
        raise AssertionError("the list that was handed in was changed")

    append = extend = insert = pop = remove = clear = sort = reverse = refuse
    __setitem__ = __delitem__ = __iadd__ = __imul__ = refuse


class Form(unittest.TestCase):
    def test_each_answer_behind_its_count(self):
        self.assertEqual(answers([0, 5]), [1, 0])
        self.assertEqual(answers([0, 17]), [1, -1])
        self.assertEqual(answers([9]), [1, 0])
        self.assertEqual(answers([1, 4, 1, 2, 3, 2, 5, 6]), [1, 0])
        self.assertEqual(answers([1, 4, 1, 2, 3, 0]), [1, -6])
        self.assertEqual(answers([1, 4, 1, 2, 3, 2, 5, 6, 5, 0]), [1, 0, 6, 4, 1, 2, 3, 5, 6])
        self.assertEqual(answers([1, 4, 1, 2, 3, 2, 5, 6, 3, 0, 1, 4, 0, 1, 1, 2, 0, 2, 0]),
                         [1, 0, 1, 0, 1, 0, 1, 0, 1, -2])

    def test_the_whole_line(self):
        self.assertEqual(answers(flat(LINE)), [
            1, 0,
            1, 0,
            1, 1,
            1, 2,
            10, 3, 1, 2, 1, 0, 0, 9, 0, 0, 9,
            8, 0, 2, 4, 0, 0, 9, 9, 9,
            2, 1, 1,
            1, 1,
            3, 2, 0, 1,
            3, 2, 0, 2,
            3, 2, 1, 0,
            2, 1, 0,
            1, 0,
            1, 0,
            1, 0,
            1, -2,
            1, -8,
            1, 2,
            1, 3,
            5, 1, 0, 2, 3, 7,
            5, 1, 3, 2, 0, 3,
            1, 0,
            2, 1, 1,
            2, 1, 1,
            3, 2, 1, 2,
            5, 4, 1, 2, 3, 4,
            3, 1, 0, 3,
            1, 0,
            7, 2, 3, 2, 2, 7, 1, 1,
            1, 0,
            5, 4, 0, 1, 2, 3,
            1, -2,
            1, -4,
            1, -7,
            1, -2,
            1, -9,
        ])

    def test_lists_of_calls_12_to_22(self):
        # The nets 5, 6 and 5: two pieces that touch and one 10 away, all on layer 1.
        three = [1, 5, 1, 1, 0, 2, 0, 0, 1, 6, 1, 1, 0, 2, 0, 0, 1, 5, 1, 1, 0, 2, 10, 0]
        self.assertEqual(answers(three + [12])[6:], [5, 1, 0, 2, 5, 6])
        self.assertEqual(answers(three + [13])[6:], [5, 1, 5, 2, 0, 2])
        self.assertEqual(answers(three + [14])[6:], [1, 0])
        self.assertEqual(answers(three + [3, 2, 0, 14])[8:], [2, 1, 2])
        self.assertEqual(answers(three + [15])[6:], [1, 0])
        self.assertEqual(answers(three + [16, 0, 2])[6:], [1, 0])
        self.assertEqual(answers(three + [17, 1, 0, 0])[6:], [3, 2, 0, 1])
        self.assertEqual(answers(three + [18, 2])[6:], [2, 1, 1])
        self.assertEqual(answers(three + [19, 11])[6:], [5, 2, 0, 2, 1, 2])
        self.assertEqual(answers(three + [20])[6:], [7, 2, 5, 2, 2, 6, 1, 1])
        self.assertEqual(answers(three + [21])[6:], [1, 0])
        self.assertEqual(answers(three + [22])[6:], [4, 3, 0, 1, 2])
        # 1 bridges 0 and 2 now.
        self.assertEqual(answers(three + [2, 1, 1, 6, 1, 1, 0, 4, 10, 0, 0, 0, 15, 16, 0, 2])[10:],
                         [2, 1, 1, 2, 1, 1])

    def test_an_empty_board(self):
        self.assertEqual(answers([12, 13, 14, 15, 19, 5, 20, 21, 22, 17, 2, 0, 0]), [1, 0] * 6 + [1, 1] + [1, 0] * 2)

    def test_calls_without_numbers_follow_each_other(self):
        self.assertEqual(answers([22, 21, 20, 15, 14, 13, 12, 9]), [1, 0, 1, 1] + [1, 0] * 6)

    def test_lists_of_calls_6_to_11(self):
        two = [1, 0, 1, 1, 0, 2, 5, 6, 1, 0, 1, 1, 0, 2, 5, 6]
        self.assertEqual(answers(two + [6, 0])[4:], [2, 1, 1])
        self.assertEqual(answers(two + [7, 0, 1])[4:], [1, 1])
        self.assertEqual(answers(two + [8, 1])[4:], [3, 2, 0, 1])
        self.assertEqual(answers(two + [9])[4:], [2, 1, 0])
        self.assertEqual(answers(two + [10, 1, 0])[4:], [3, 2, 1, 0])
        self.assertEqual(answers(two + [10, 1, 1])[4:], [2, 1, 1])
        self.assertEqual(answers(two + [11, 1, 0])[4:], [2, 1, 1])
        self.assertEqual(answers([1, 0, 1, 1, 0, 2, 5, 6, 6, 0])[2:], [1, 0])

    def test_a_row_of_a_refused_add_is_passed_over(self):
        for count in (0, 1, 3, 65, 66, 99, 100):
            self.assertEqual(answers([1, -1, 1, 1, 0, count] + [9] * count + [9]), [1, -3, 1, 0])

    def test_a_list_of_whole_numbers(self):
        told = answers(flat(LINE))
        self.assertIs(list, told.__class__)
        for number in told:
            self.assertIs(int, number.__class__)

    def test_arguments_as_far_out_as_they_go(self):
        for far in (HUGE, -HUGE):
            calls = [begin(far), add([(far, far)], far, far, far, far), add([(far, far)]), remove(far),
                     label(far, far), move(far, far, far), piece(far), touching(far), joined(far, far),
                     members(far), chain(far, far), reach(far, far), needed(far, far), levels(far),
                     point(far, far, far), point(1, far, far), near(far)]
            self.assertEqual(ask(calls), [[-1], [-3], [-7]] + [[-2]] * 11 + [[-4], [-7], [-9]])

    def test_180_calls(self):
        self.assertEqual(answers([9] * 180), [1, 0] * 180)


class NothingIsKept(unittest.TestCase):
    def test_what_is_handed_in_is_the_same_afterwards(self):
        calls = flat(LINE)
        before = list(calls)
        answers(calls)
        self.assertEqual(calls, before)

    def test_it_is_not_changed_for_a_while_either(self):
        self.assertEqual(answers(Told(flat(LINE))), answers(flat(LINE)))

    def test_the_answers_are_another_list(self):
        first = answers([9])
        first.append(5)
        self.assertEqual(answers([9]), [1, 0])

    def test_two_runs_do_not_see_each_other(self):
        once = answers(flat(LINE))
        self.assertEqual(answers([9]), [1, 0])
        self.assertEqual(last([add([(0, 0)], last=3)]), [-4])
        self.assertEqual(answers(flat(LINE)), once)
        self.assertEqual(last([add([(0, 0)])]), [0])

    def test_nothing_is_printed(self):
        printed = io.StringIO()
        with contextlib.redirect_stdout(printed), contextlib.redirect_stderr(printed):
            answers(flat(LINE))
        self.assertEqual(printed.getvalue(), "")

    def test_its_names(self):
        self.assertEqual(copperboarddesk.__name__, "copperboarddesk")
        self.assertIs(desk.answers, answers)


# A band of long slanting sides, up and down, that lies just above the one before it: with a
# step of 1000 a little less than 6 away from it, and a little less than 16 from the next but one.
def folded_band(k, step=50):
    upper = [(10000 * j, step * k + 1000000 * (j % 2)) for j in range(16)]
    return upper + [(x, y - 2 * step // 5) for x, y in upper][::-1]


class Time(unittest.TestCase):
    def check_time(self, calls, *expected):
        start = time.monotonic()
        self.assertEqual(ask(calls)[-len(expected):], list(expected))
        self.assertLess(time.monotonic() - start, 60)

    def test_128_pieces_of_32_corners_that_do_not_touch(self):
        calls = [add(folded_band(k)) for k in range(128)]
        calls += [[4, k // 2, 0, 1 - 2 * (k % 2)] for k in range(51)] + [parts()]
        self.check_time(calls, [128] + list(range(128)))

    def test_128_pieces_of_32_corners_that_all_touch(self):
        calls = [add(folded_band(k), r=5000) for k in range(128)]
        calls += [[8, k] for k in range(51)] + [parts()]
        self.check_time(calls, [1, 0])

    def test_a_long_row_is_gone_through_by_loops(self):
        calls = [add([(2 * k, 0)], r=1) for k in range(128)]
        calls += [chain(0, 127) for k in range(51)] + [chain(127, 0)]
        self.check_time(calls, [128] + list(range(127, -1, -1)))

    def test_cuts_and_needed_among_128_pieces_of_32_corners(self):
        calls = [add(folded_band(k, 1000), r=4) for k in range(128)]
        middle = [126] + list(range(1, 127))
        calls += [cuts(), needed(0, 127), near(50), needed(127, 0), shorts(), opens(), nets(), clean()] * 6
        self.check_time(calls + [cuts(), needed(0, 127), remove(64), near(8)], middle, middle, [0], [1, 63, 65])

    def test_cuts_and_needed_where_all_128_touch(self):
        calls = [add(folded_band(k), r=5000, net=k) for k in range(128)] + [cuts(), needed(0, 127), near(9)] * 16
        self.check_time(calls + [shorts(), needed(3, 90), cuts()],
                        [1, 0, 127] + list(range(1, 128)), [0], [0])

    def test_near_among_128_pieces_of_32_corners(self):
        calls = [add(folded_band(k, 1000)) for k in range(128)]
        for k in range(12):
            calls += [near(6 + 5 * k), move(10 * k, 0, 1), near(3), move(10 * k, 0, -1)]
        pairs = [(k, k + 1) for k in range(127)]
        self.check_time(calls + [near(5), near(6)], [0], [127] + [n for pair in pairs for n in pair])
