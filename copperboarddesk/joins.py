"""What is joined on a board: parts, their layers, shortest chains, reach, and near pairs."""

from copperboarddesk.piece import boxes_near
from copperboarddesk.piece import share_layer
from copperboarddesk.plane import less_square


# For each piece joined with start, how many pieces the shortest chain from start to it
# has besides start.
def steps_from(board, start):
    steps = {start: 0}
    rim = [start]
    count = 0
    while len(rim) > 0:
        count = count + 1
        reached = []
        for number in rim:
            for other in board.touching(number):
                if other not in steps:
                    steps[other] = count
                    reached.append(other)
        rim = reached
    return steps


def members(board, number):
    return sorted(steps_from(board, number))


# For each piece the least piece of its part.
def least_joined(board):
    least = {}
    for number in board.numbers():
        if number not in least:
            for other in steps_from(board, number):
                least[other] = number
    return least


def parts(board):
    least = least_joined(board)
    return [number for number in board.numbers() if least[number] == number]


# Steps are counted from the end, so that the least of the next pieces that still lie
# on a shortest chain can be taken at each place from the beginning on.
def shortest_chain(board, start, end):
    steps = steps_from(board, end)
    if start not in steps:
        return []
    chain = [start]
    while chain[-1] != end:
        left = steps[chain[-1]] - 1
        nearer = [other for other in board.touching(chain[-1]) if steps[other] == left]
        chain.append(nearer[0])
    return chain


def reached_within(board, start, most):
    steps = steps_from(board, start)
    return sorted([number for number in steps if steps[number] <= most])


def levels_of_part(board, number):
    levels = {}
    for other in steps_from(board, number):
        piece = board.pieces[other]
        for layer in range(piece.first, piece.last + 1):
            levels[layer] = True
    return sorted(levels)


# Of pieces that share a layer and don't touch. Boxes are asked first, as they tell of most
# pairs that they are far apart.
def shapes_nearer(board, i, j, clearance):
    piece = board.pieces[i]
    other = board.pieces[j]
    distance = piece.radius + other.radius + clearance
    return boxes_near(piece, other, distance) and less_square(board.gap(i, j), (distance * distance, 1))


# The pairs of pieces that have a layer in common and aren't joined, with less than the
# clearance between their shapes.
def near_pairs(board, clearance):
    least = least_joined(board)
    numbers = board.numbers()
    pairs = []
    for k, i in enumerate(numbers):
        for j in numbers[k + 1:]:
            apart = least[i] != least[j] and share_layer(board.pieces[i], board.pieces[j])
            if apart and shapes_nearer(board, i, j, clearance):
                pairs.append((i, j))
    return pairs
