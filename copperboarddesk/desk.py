"""The desk: takes a line of calls as one list of whole numbers and gives back the answers.

Each answer_.. function takes the board and the call's numbers and gives back the
numbers that are answered; refusals are looked for in their order, -1 first.
"""

from copperboarddesk.board import Board
from copperboarddesk.joins import members
from copperboarddesk.joins import parts
from copperboarddesk.joins import reached_within
from copperboarddesk.joins import shortest_chain
from copperboarddesk.joins import steps_from
from copperboarddesk.piece import Piece
from copperboarddesk.refusals import BOARD_FULL
from copperboarddesk.refusals import GREATEST_COORDINATE
from copperboarddesk.refusals import GREATEST_NET
from copperboarddesk.refusals import GREATEST_RADIUS
from copperboarddesk.refusals import MOST_LAYERS
from copperboarddesk.refusals import MOST_POINTS
from copperboarddesk.refusals import MOST_STEPS
from copperboarddesk.refusals import NO_SKELETON
from copperboarddesk.refusals import NO_SUCH_PIECE
from copperboarddesk.refusals import POINT_OUT_OF_RANGE
from copperboarddesk.refusals import WRONG_LAYER_COUNT
from copperboarddesk.refusals import WRONG_LAYERS
from copperboarddesk.refusals import WRONG_NET
from copperboarddesk.refusals import WRONG_POINT_COUNT
from copperboarddesk.refusals import WRONG_RADIUS
from copperboarddesk.refusals import WRONG_STEPS
from copperboarddesk.skeleton import in_form
from copperboarddesk.skeleton import is_skeleton


def as_list(numbers):
    return [len(numbers)] + numbers


def is_net(net):
    return 0 <= net <= GREATEST_NET


def in_range(numbers):
    return all([abs(number) <= GREATEST_COORDINATE for number in numbers])


def points_from(numbers):
    return [(numbers[k], numbers[k + 1]) for k in range(0, len(numbers), 2)]


def coordinates_of(points):
    numbers = []
    for x, y in points:
        numbers.append(x)
        numbers.append(y)
    return numbers


def answer_begin(board, given):
    layers = given[0]
    if not 1 <= layers <= MOST_LAYERS:
        return [WRONG_LAYER_COUNT]
    board.begin(layers)
    return [0]


# 0 where the numbers are a skeleton's coordinates.
def refusal_of_points(numbers):
    if len(numbers) % 2 != 0 or not 1 <= len(numbers) // 2 <= MOST_POINTS:
        return WRONG_POINT_COUNT
    if not in_range(numbers):
        return POINT_OUT_OF_RANGE
    if not is_skeleton(points_from(numbers)):
        return NO_SKELETON
    return 0


# 0 where the piece may be added.
def refusal_of_add(board, net, first, last, radius, numbers):
    if not is_net(net):
        return WRONG_NET
    if not 1 <= first <= last <= board.layers:
        return WRONG_LAYERS
    if not 0 <= radius <= GREATEST_RADIUS:
        return WRONG_RADIUS
    refusal = refusal_of_points(numbers)
    if refusal != 0:
        return refusal
    if board.is_full():
        return BOARD_FULL
    return 0


def answer_add(board, given):
    net = given[0]
    first = given[1]
    last = given[2]
    radius = given[3]
    numbers = given[4:]
    refusal = refusal_of_add(board, net, first, last, radius, numbers)
    if refusal != 0:
        return [refusal]
    number = board.least_free()
    board.put(number, Piece(net, first, last, radius, in_form(points_from(numbers))))
    return [number]


def answer_remove(board, given):
    if not board.has(given[0]):
        return [NO_SUCH_PIECE]
    board.take(given[0])
    return [0]


def answer_label(board, given):
    if not board.has(given[0]):
        return [NO_SUCH_PIECE]
    if not is_net(given[1]):
        return [WRONG_NET]
    board.pieces[given[0]].net = given[1]
    return [0]


def answer_move(board, given):
    if not board.has(given[0]):
        return [NO_SUCH_PIECE]
    moved = [(x + given[1], y + given[2]) for x, y in board.pieces[given[0]].points]
    if not in_range(coordinates_of(moved)):
        return [POINT_OUT_OF_RANGE]
    board.place(given[0], moved)
    return [0]


def answer_piece(board, given):
    if not board.has(given[0]):
        return [NO_SUCH_PIECE]
    piece = board.pieces[given[0]]
    return [piece.net, piece.first, piece.last, piece.radius] + coordinates_of(piece.points)


def answer_touching(board, given):
    if not board.has(given[0]):
        return [NO_SUCH_PIECE]
    return as_list(board.touching(given[0]))


def answer_joined(board, given):
    if not board.has(given[0]) or not board.has(given[1]):
        return [NO_SUCH_PIECE]
    return [1 if given[1] in steps_from(board, given[0]) else 0]


def answer_members(board, given):
    if not board.has(given[0]):
        return [NO_SUCH_PIECE]
    return as_list(members(board, given[0]))


def answer_parts(board, given):
    return as_list(parts(board))


def answer_chain(board, given):
    if not board.has(given[0]) or not board.has(given[1]):
        return [NO_SUCH_PIECE]
    return as_list(shortest_chain(board, given[0], given[1]))


def answer_reach(board, given):
    if not board.has(given[0]):
        return [NO_SUCH_PIECE]
    if not 0 <= given[1] <= MOST_STEPS:
        return [WRONG_STEPS]
    return as_list(reached_within(board, given[0], given[1]))


# For each call its function, how many whole numbers it has, and how many rows behind them.
CALLS = {
    0: (answer_begin, 1, 0),
    1: (answer_add, 4, 1),
    2: (answer_remove, 1, 0),
    3: (answer_label, 2, 0),
    4: (answer_move, 3, 0),
    5: (answer_piece, 1, 0),
    6: (answer_touching, 1, 0),
    7: (answer_joined, 2, 0),
    8: (answer_members, 1, 0),
    9: (answer_parts, 0, 0),
    10: (answer_chain, 2, 0),
    11: (answer_reach, 2, 0),
}


def answers(calls):
    board = Board()
    told = []
    at = 0
    while at < len(calls):
        call = CALLS[calls[at]]
        at = at + 1
        given = calls[at:at + call[1]]
        at = at + call[1]
        if call[2] == 1:
            row = calls[at + 1:at + 1 + calls[at]]
            at = at + 1 + len(row)
            given = given + row
        answer = call[0](board, given)
        told.append(len(answer))
        told.extend(answer)
    return told
