"""The desk: takes a line of calls as one list of whole numbers and gives back the answers.

Each answer_.. function takes the board and the call's numbers and gives back the
numbers that are answered; refusals are looked for in their order, -1 first.
"""

from copperboarddesk.board import Board
from copperboarddesk.cuts import cut_pieces
from copperboarddesk.cuts import needed_between
from copperboarddesk.joins import levels_of_part
from copperboarddesk.joins import members
from copperboarddesk.joins import near_pairs
from copperboarddesk.joins import parts
from copperboarddesk.joins import reached_within
from copperboarddesk.joins import shortest_chain
from copperboarddesk.joins import steps_from
from copperboarddesk.nets import loose_pieces
from copperboarddesk.nets import net_counts
from copperboarddesk.nets import nets_apart
from copperboarddesk.nets import shorted_parts
from copperboarddesk.piece import Piece
from copperboarddesk.piece import pieces_touch
from copperboarddesk.refusals import BOARD_FULL
from copperboarddesk.refusals import GREATEST_COORDINATE
from copperboarddesk.refusals import GREATEST_DISTANCE
from copperboarddesk.refusals import GREATEST_NET
from copperboarddesk.refusals import GREATEST_RADIUS
from copperboarddesk.refusals import MOST_LAYERS
from copperboarddesk.refusals import MOST_POINTS
from copperboarddesk.refusals import MOST_STEPS
from copperboarddesk.refusals import NO_SKELETON
from copperboarddesk.refusals import NO_SUCH_PIECE
from copperboarddesk.refusals import POINT_OUT_OF_RANGE
from copperboarddesk.refusals import WRONG_DISTANCE
from copperboarddesk.refusals import WRONG_LAYER_COUNT
from copperboarddesk.refusals import WRONG_LAYERS
from copperboarddesk.refusals import WRONG_NET
from copperboarddesk.refusals import WRONG_POINT_COUNT
from copperboarddesk.refusals import WRONG_RADIUS
from copperboarddesk.refusals import WRONG_STEPS
from copperboarddesk.skeleton import in_form
from copperboarddesk.skeleton import is_skeleton


def as_list(numbers):
    return [len(numbers)] + numbers


def flattened(rows):
    numbers = []
    for row in rows:
        numbers.extend(row)
    return numbers


# How many rows there are, then the numbers of each.
def as_rows(rows):
    return [len(rows)] + flattened(rows)


# How many heads there are, then each with the list that belongs to it.
def as_lists(headed):
    return as_rows([[head] + as_list(numbers) for head, numbers in headed])


def is_net(net):
    return 0 <= net <= GREATEST_NET


def in_range(numbers):
    return all([abs(number) <= GREATEST_COORDINATE for number in numbers])


def points_from(numbers):
    return [(numbers[k], numbers[k + 1]) for k in range(0, len(numbers), 2)]


def answer_begin(board, given):
    layers = given[0]
    if not 1 <= layers <= MOST_LAYERS:
        return [WRONG_LAYER_COUNT]
    board.begin(layers)
    return [0]


# 0 where the numbers are a skeleton's coordinates.
def refusal_of_points(numbers):
    if len(numbers) % 2 != 0 or not 1 <= len(numbers) // 2 <= MOST_POINTS:
        return WRONG_POINT_COUNT
    if not in_range(numbers):
        return POINT_OUT_OF_RANGE
    if not is_skeleton(points_from(numbers)):
        return NO_SKELETON
    return 0


# 0 where the piece may be added.
def refusal_of_add(board, net, first, last, radius, numbers):
    if not is_net(net):
        return WRONG_NET
    if not 1 <= first <= last <= board.layers:
        return WRONG_LAYERS
    if not 0 <= radius <= GREATEST_RADIUS:
        return WRONG_RADIUS
    refusal = refusal_of_points(numbers)
    if refusal != 0:
        return refusal
    if board.is_full():
        return BOARD_FULL
    return 0


def answer_add(board, given):
    net = given[0]
    first = given[1]
    last = given[2]
    radius = given[3]
    numbers = given[4:]
    refusal = refusal_of_add(board, net, first, last, radius, numbers)
    if refusal != 0:
        return [refusal]
    number = board.least_free()
    board.put(number, Piece(net, first, last, radius, in_form(points_from(numbers))))
    return [number]


def answer_remove(board, given):
    if not board.has(given[0]):
        return [NO_SUCH_PIECE]
    board.take(given[0])
    return [0]


def answer_label(board, given):
    if not board.has(given[0]):
        return [NO_SUCH_PIECE]
    if not is_net(given[1]):
        return [WRONG_NET]
    board.pieces[given[0]].net = given[1]
    return [0]


def answer_move(board, given):
    if not board.has(given[0]):
        return [NO_SUCH_PIECE]
    moved = [(x + given[1], y + given[2]) for x, y in board.pieces[given[0]].points]
    if not in_range(flattened(moved)):
        return [POINT_OUT_OF_RANGE]
    board.place(given[0], moved)
    return [0]


def answer_piece(board, given):
    if not board.has(given[0]):
        return [NO_SUCH_PIECE]
    piece = board.pieces[given[0]]
    return [piece.net, piece.first, piece.last, piece.radius] + flattened(piece.points)


def answer_touching(board, given):
    if not board.has(given[0]):
        return [NO_SUCH_PIECE]
    return as_list(board.touching(given[0]))


def answer_joined(board, given):
    if not board.has(given[0]) or not board.has(given[1]):
        return [NO_SUCH_PIECE]
    return [1 if given[1] in steps_from(board, given[0]) else 0]


def answer_members(board, given):
    if not board.has(given[0]):
        return [NO_SUCH_PIECE]
    return as_list(members(board, given[0]))


def answer_parts(board, given):
    return as_list(parts(board))


def answer_chain(board, given):
    if not board.has(given[0]) or not board.has(given[1]):
        return [NO_SUCH_PIECE]
    return as_list(shortest_chain(board, given[0], given[1]))


def answer_reach(board, given):
    if not board.has(given[0]):
        return [NO_SUCH_PIECE]
    if not 0 <= given[1] <= MOST_STEPS:
        return [WRONG_STEPS]
    return as_list(reached_within(board, given[0], given[1]))


def answer_shorts(board, given):
    return as_lists(shorted_parts(board))


def answer_opens(board, given):
    return as_lists(nets_apart(board))


def answer_loose(board, given):
    return as_list(loose_pieces(board))


def answer_cuts(board, given):
    return as_list(cut_pieces(board))


def answer_needed(board, given):
    if not board.has(given[0]) or not board.has(given[1]):
        return [NO_SUCH_PIECE]
    return as_list(needed_between(board, given[0], given[1]))


# A piece holds a point just if it would touch a spot of radius 0 there.
def answer_point(board, given):
    layer = given[0]
    if not 1 <= layer <= board.layers:
        return [WRONG_LAYERS]
    if not in_range(given[1:]):
        return [POINT_OUT_OF_RANGE]
    spot = Piece(0, layer, layer, 0, points_from(given[1:]))
    return as_list([number for number in board.numbers() if pieces_touch(spot, board.pieces[number])])


def answer_levels(board, given):
    if not board.has(given[0]):
        return [NO_SUCH_PIECE]
    return as_list(levels_of_part(board, given[0]))


def answer_near(board, given):
    if not 1 <= given[0] <= GREATEST_DISTANCE:
        return [WRONG_DISTANCE]
    return as_rows(near_pairs(board, given[0]))


def answer_nets(board, given):
    return as_rows(net_counts(board))


def answer_clean(board, given):
    told = len(shorted_parts(board)) + len(nets_apart(board))
    return [1 if told == 0 else 0]


def answer_all(board, given):
    return as_list(board.numbers())


# For each call its function, how many whole numbers it has, and how many rows behind them.
CALLS = {
    0: (answer_begin, 1, 0),
    1: (answer_add, 4, 1),
    2: (answer_remove, 1, 0),
    3: (answer_label, 2, 0),
    4: (answer_move, 3, 0),
    5: (answer_piece, 1, 0),
    6: (answer_touching, 1, 0),
    7: (answer_joined, 2, 0),
    8: (answer_members, 1, 0),
    9: (answer_parts, 0, 0),
    10: (answer_chain, 2, 0),
    11: (answer_reach, 2, 0),
    12: (answer_shorts, 0, 0),
    13: (answer_opens, 0, 0),
    14: (answer_loose, 0, 0),
    15: (answer_cuts, 0, 0),
    16: (answer_needed, 2, 0),
    17: (answer_point, 3, 0),
    18: (answer_levels, 1, 0),
    19: (answer_near, 1, 0),
    20: (answer_nets, 0, 0),
    21: (answer_clean, 0, 0),
    22: (answer_all, 0, 0),
}


def answers(calls):
    board = Board()
    told = []
    at = 0
    while at < len(calls):
        call = CALLS[calls[at]]
        at = at + 1
        given = calls[at:at + call[1]]
        at = at + call[1]
        if call[2] == 1:
            row = calls[at + 1:at + 1 + calls[at]]
            at = at + 1 + len(row)
            given = given + row
        answer = call[0](board, given)
        told.append(len(answer))
        told.extend(answer)
    return told
