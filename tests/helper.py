"""How the tests write calls down and read answers."""

import unittest

from copperboarddesk.desk import answers

FAR = 1000000000
HUGE = 10 ** 18


def begin(layers):
    return [0, layers]


def add(points, net=0, first=1, last=1, r=0):
    return add_numbers([c for point in points for c in point], net, first, last, r)


def add_numbers(numbers, net=0, first=1, last=1, r=0):
    return [1, net, first, last, r, len(numbers)] + list(numbers)


def remove(i):
    return [2, i]


def label(i, net):
    return [3, i, net]


def move(i, dx, dy):
    return [4, i, dx, dy]


def piece(i):
    return [5, i]


def touching(i):
    return [6, i]


def joined(i, j):
    return [7, i, j]


def members(i):
    return [8, i]


def parts():
    return [9]


def chain(i, j):
    return [10, i, j]


def reach(i, k):
    return [11, i, k]


def flat(calls):
    return [number for call in calls for number in call]


def split(told):
    found = []
    at = 0
    while at < len(told):
        count = told[at]
        found.append(told[at + 1:at + 1 + count])
        at += 1 + count
    assert at == len(told), "the last answer is shorter than its count"
    return found


def ask(calls):
    assert len(calls) <= 180, "a line has at most 180 calls"
    found = split(answers(flat(calls)))
    assert len(found) == len(calls), "each call has one answer"
    return found


def last(calls):
    return ask(calls)[-1]


# Everything the calls can tell of a small board, its number of layers too.
def questions(pieces):
    asked = [parts()]
    for i in range(pieces + 2):
        asked += [piece(i), touching(i), members(i), reach(i, 1), chain(0, i)]
    for layers in range(1, 18):
        asked.append(add([(0, 0)], first=layers, last=layers))
    return asked


class DeskCase(unittest.TestCase):
    def check_answers(self, calls, *expected):
        self.assertEqual(ask(calls)[-len(expected):], [list(answer) for answer in expected])

    # The answer is the refusal alone, and all that can be asked later is as without it.
    def check_refused(self, before, call, refusal, pieces=4):
        after = questions(pieces)
        found = ask(before + [call] + after)
        self.assertEqual(found[len(before)], [refusal], call)
        self.assertEqual(found[len(before) + 1:], ask(before + after)[len(before):], call)
