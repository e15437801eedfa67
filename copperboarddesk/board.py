"""The board: its number of layers, its pieces by their numbers, and what touches what."""

from copperboarddesk.piece import gap_square
from copperboarddesk.piece import pieces_touch
from copperboarddesk.refusals import MOST_PIECES

LAYERS_AT_FIRST = 2


class Board:
    def __init__(self):
        self.begin(LAYERS_AT_FIRST)

    def begin(self, layers):
        self.layers = layers
        self.pieces = {}
        self.links = {}
        self.gaps = {}

    def has(self, number):
        return number in self.pieces

    def is_full(self):
        return len(self.pieces) >= MOST_PIECES

    # Only asked of a board that isn't full.
    def least_free(self):
        number = 0
        while number in self.pieces:
            number = number + 1
        return number

    def numbers(self):
        return sorted(self.pieces)

    def touching(self, number):
        return sorted(self.links[number])

    # Touching is worked out whenever a piece comes or moves, and only read later: many
    # questions follow one change, and each goes from piece to piece.
    def link(self, number):
        piece = self.pieces[number]
        touched = [other for other in self.links if pieces_touch(piece, self.pieces[other])]
        self.links[number] = {}
        for other in touched:
            self.links[number][other] = True
            self.links[other][number] = True

    def unlink(self, number):
        touched = self.touching(number)
        self.links.pop(number)
        for other in touched:
            self.links[other].pop(number)
        for pair in list(self.gaps):
            if number in pair:
                self.gaps.pop(pair)

    def put(self, number, piece):
        self.pieces[number] = piece
        self.link(number)

    def take(self, number):
        self.unlink(number)
        self.pieces.pop(number)

    def place(self, number, points):
        self.unlink(number)
        self.pieces[number].place(points)
        self.link(number)

    # The square of the distance of the skeletons of i and j, i < j, which have no point in
    # common. It costs much and is asked again and again, so it is kept while they stay.
    def gap(self, i, j):
        if (i, j) not in self.gaps:
            self.gaps[(i, j)] = gap_square(self.pieces[i], self.pieces[j])
        return self.gaps[(i, j)]
