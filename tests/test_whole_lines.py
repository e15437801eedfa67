"""Whole lines of all the calls by lot, against the words written down once more, slowly."""

from functools import lru_cache
from random import Random

from tests.helper import DeskCase, FAR, HUGE, ask, least_square
from tests.test_skeletons import simple

gap = lru_cache(maxsize=None)(least_square)
is_simple = lru_cache(maxsize=None)(simple)


def listed(numbers):
    return [len(numbers)] + list(numbers)


def form(points):
    low = min(points, key=lambda p: (p[1], p[0]))
    if len(points) < 3:
        return tuple([low] + [p for p in points if p != low])
    area = sum(points[k - 1][0] * points[k][1] - points[k - 1][1] * points[k][0] for k in range(len(points)))
    way = list(points) if area > 0 else list(points)[::-1]
    while way[0] != low:
        way.append(way.pop(0))
    return tuple(way)


class Slow:
    """A board that works everything out anew from its pieces at each call."""

    def __init__(self):
        self.layers = 2
        self.pieces = {}

    def refusal(self, *due):
        found = [number for number, wrong in due if wrong]
        return max(found, default=None)

    def lacks(self, *numbers):
        return (-2, any(i not in self.pieces for i in numbers))

    def bounded(self, number, refusal, low, high):
        return (refusal, not low <= number <= high)

    def answer(self, call):
        names = ("begin add remove label move piece touching joined members parts chain reach shorts opens loose "
                 "cuts needed point levels near nets clean all").split()
        refusal = self.refusal(*getattr(self, "due_" + names[call[0]], lambda *given: [])(*call[1:]))
        if refusal is not None:
            return [refusal]
        return getattr(self, "call_" + names[call[0]])(*call[1:])

    # What touches, and parts, without the pieces that are left out.

    def touch(self, i, j):
        first, other = self.pieces[i], self.pieces[j]
        if not set(range(first[1], first[2] + 1)) & set(range(other[1], other[2] + 1)):
            return False
        return i != j and gap(first[4], other[4]) <= (first[3] + other[3]) ** 2

    def part(self, i, without=()):
        found = {i}
        while True:
            more = {j for j in self.pieces if j not in found and j not in without
                    and any(self.touch(k, j) for k in found)}
            if not more:
                return sorted(found)
            found |= more

    def parts(self, without=()):
        return sorted({self.part(i, without)[0]: self.part(i, without) for i in self.pieces
                       if i not in without}.values())

    def nets_of(self, numbers):
        return sorted({self.pieces[i][0] for i in numbers} - {0})

    def parts_of(self, net):
        return [part[0] for part in self.parts() if net in self.nets_of(part)]

    # The calls, each with the refusals that may be due.

    def due_begin(self, layers):
        return [self.bounded(layers, -1, 1, 16)]

    def call_begin(self, layers):
        self.__init__()
        self.layers = layers
        return [0]

    def due_add(self, net, first, end, r, count, *numbers):
        points = tuple(zip(numbers[::2], numbers[1::2]))
        due = [self.bounded(net, -3, 0, FAR), (-4, not 1 <= first <= end <= self.layers),
               self.bounded(r, -5, 0, FAR), (-6, count not in range(2, 65, 2)),
               (-7, any(abs(c) > FAR for c in numbers)), (-10, len(self.pieces) == 128)]
        if self.refusal(*due) in (None, -10) and len(points) > 1:
            due.append((-8, points[0] == points[1] if len(points) == 2 else not is_simple(points)))
        return due

    def call_add(self, net, first, end, r, count, *numbers):
        number = min(set(range(128)) - set(self.pieces))
        self.pieces[number] = (net, first, end, r, form(list(zip(numbers[::2], numbers[1::2]))))
        return [number]

    def due_remove(self, i):
        return [self.lacks(i)]

    def call_remove(self, i):
        del self.pieces[i]
        return [0]

    def due_label(self, i, net):
        return [self.lacks(i), self.bounded(net, -3, 0, FAR)]

    def call_label(self, i, net):
        self.pieces[i] = (net,) + self.pieces[i][1:]
        return [0]

    def moved(self, i, dx, dy):
        return tuple((x + dx, y + dy) for x, y in self.pieces[i][4])

    def due_move(self, i, dx, dy):
        if i not in self.pieces:
            return [(-2, True)]
        return [(-7, any(abs(c) > FAR for p in self.moved(i, dx, dy) for c in p))]

    def call_move(self, i, dx, dy):
        self.pieces[i] = self.pieces[i][:4] + (self.moved(i, dx, dy),)
        return [0]

    due_piece = due_touching = due_members = due_levels = due_remove

    def call_piece(self, i):
        return list(self.pieces[i][:4]) + [c for p in self.pieces[i][4] for c in p]

    def call_touching(self, i):
        return listed([j for j in sorted(self.pieces) if self.touch(i, j)])

    def due_joined(self, i, j):
        return [self.lacks(i, j)]

    due_chain = due_needed = due_joined

    def call_joined(self, i, j):
        return [1 if j in self.part(i) else 0]

    def call_members(self, i):
        return listed(self.part(i))

    def call_parts(self):
        return listed([part[0] for part in self.parts()])

    # The first in order of all chains of one length to each piece, length by length.
    def chains(self, i):
        best = {i: [i]}
        rim = [[i]]
        while rim:
            ways = [way + [j] for way in rim for j in self.pieces if j not in best and self.touch(way[-1], j)]
            rim = [min(way for way in ways if way[-1] == end) for end in {way[-1] for way in ways}]
            best.update({way[-1]: way for way in rim})
        return best

    def call_chain(self, i, j):
        return listed(self.chains(i).get(j, []))

    def due_reach(self, i, k):
        return [self.lacks(i), self.bounded(k, -9, 0, 128)]

    def call_reach(self, i, k):
        return listed(sorted(j for j, way in self.chains(i).items() if len(way) <= k + 1))

    def call_shorts(self):
        found = [[part[0]] + listed(self.nets_of(part)) for part in self.parts() if len(self.nets_of(part)) > 1]
        return [len(found)] + sum(found, [])

    def call_opens(self):
        found = [[net] + listed(self.parts_of(net)) for net in self.nets_of(self.pieces)
                 if len(self.parts_of(net)) > 1]
        return [len(found)] + sum(found, [])

    def call_loose(self):
        return listed([i for i in sorted(self.pieces) if not self.nets_of(self.part(i))])

    def call_cuts(self):
        count = len(self.parts())
        return listed([i for i in sorted(self.pieces) if len(self.parts((i,))) > count])

    def call_needed(self, i, j):
        if j not in self.part(i):
            return [0]
        return listed([k for k in sorted(self.pieces) if k not in (i, j) and j not in self.part(i, (k,))])

    def due_point(self, layer, x, y):
        return [self.bounded(layer, -4, 1, self.layers), self.bounded(x, -7, -FAR, FAR),
                self.bounded(y, -7, -FAR, FAR)]

    def call_point(self, layer, x, y):
        return listed([i for i, (net, first, end, r, points) in sorted(self.pieces.items())
                       if first <= layer <= end and gap(((x, y),), points) <= r * r])

    def call_levels(self, i):
        return listed(sorted({layer for j in self.part(i)
                              for layer in range(self.pieces[j][1], self.pieces[j][2] + 1)}))

    def due_near(self, c):
        return [self.bounded(c, -9, 1, FAR)]

    def is_near(self, i, j, c):
        one, other = self.pieces[i], self.pieces[j]
        if max(one[1], other[1]) > min(one[2], other[2]):
            return False
        return gap(one[4], other[4]) < (one[3] + other[3] + c) ** 2

    def call_near(self, c):
        found = [(i, j) for i in sorted(self.pieces) for j in sorted(self.pieces)
                 if i < j and j not in self.part(i) and self.is_near(i, j, c)]
        return [len(found)] + [n for pair in found for n in pair]

    def call_nets(self):
        found = self.nets_of(self.pieces)
        counts = [(net, sum(1 for told in self.pieces.values() if told[0] == net), len(self.parts_of(net)))
                  for net in found]
        return [len(found)] + [n for row in counts for n in row]

    def call_clean(self):
        return [1 if self.call_shorts() == self.call_opens() == [0] else 0]

    def call_all(self):
        return listed(sorted(self.pieces))


# How many whole numbers each call has that aren't given by lot in a way of their own.
PLAIN = {9: 0, 12: 0, 13: 0, 14: 0, 15: 0, 20: 0, 21: 0, 22: 0}
OF_PIECES = {2: 1, 5: 1, 6: 1, 7: 2, 8: 1, 10: 2, 16: 2, 18: 1}


class Lot:
    """Calls by lot on a board of a few pieces within a small square."""

    def __init__(self, seed, size, radius, wrong):
        self.lot = Random(seed)
        self.size = size
        self.radius = radius
        self.wrong = wrong

    def pick(self, low, high):
        if self.lot.random() < self.wrong:
            return self.lot.choice((low - 1, high + 1, -1, -HUGE, HUGE, 0))
        return self.lot.randint(low, high)

    def coordinate(self):
        if self.lot.random() < self.wrong / 4:
            return self.lot.choice((-FAR - 1, FAR + 1, HUGE))
        return self.lot.randint(-self.size, self.size)

    def add(self):
        count = 2 * self.lot.choice((1, 1, 2, 2, 2, 3, 3, 4, 5))
        if self.lot.random() < self.wrong / 4:
            count = self.lot.choice((0, 1, 3, 5, 65, 66, 100))
        first = self.pick(1, 3)
        end = self.pick(first, 3) if first <= 3 else 3
        return [1, self.pick(0, 4), first, end, self.pick(0, self.radius), count] + [
            self.coordinate() for k in range(count)]

    def call(self, pieces):
        if self.lot.random() < 0.01:
            return [0, self.lot.choice((2, 3, 4, 0, 17, -HUGE, HUGE))]
        kind = self.lot.choice((1, 1, 1, 1, 1, 2, 3, 3, 4, 4) + tuple(range(5, 23)))
        if kind == 1:
            return self.add()
        if kind in PLAIN:
            return [kind]
        if kind in OF_PIECES:
            return [kind] + [self.pick(0, pieces - 1) for k in range(OF_PIECES[kind])]
        if kind == 3:
            return [3, self.pick(0, pieces - 1), self.pick(0, 4)]
        if kind == 4:
            return [4, self.pick(0, pieces - 1), self.coordinate() // 2, self.coordinate() // 2]
        if kind == 11:
            return [11, self.pick(0, pieces - 1), self.pick(0, 3) if self.lot.random() < 0.9 else self.pick(0, 128)]
        if kind == 17:
            return [17, self.pick(1, 3), self.coordinate(), self.coordinate()]
        return [19, self.pick(1, self.size)]


class AgainstTheWords(DeskCase):
    def check_lines(self, seed, size, radius, wrong, lines=8, most=12):
        for at in range(lines):
            lot = Lot(1000 * seed + at, size, radius, wrong)
            slow = Slow()
            calls = [[0, 3]]
            expected = [slow.answer([0, 3])]
            while len(calls) < 180:
                call = lot.call(max(len(slow.pieces), 1))
                if len(slow.pieces) >= most:
                    call = [2, lot.lot.choice(sorted(slow.pieces))]
                calls.append(call)
                expected.append(slow.answer(call))
            for call, found, answer in zip(calls, ask(calls), expected):
                self.assertEqual(found, answer, (call, calls))

    def test_crowded(self):
        self.check_lines(81, 10, 2, 0.05)

    def test_with_room(self):
        self.check_lines(82, 30, 4, 0.05)

    def test_radius_0(self):
        self.check_lines(83, 8, 0, 0.02)

    def test_wide(self):
        self.check_lines(84, FAR, FAR // 5, 0.05)

    def test_mostly_wrong(self):
        self.check_lines(85, 12, 3, 0.3)
