"""The nets of the pieces against what is joined: shorts, opens, and parts without a net."""

from copperboarddesk.joins import least_joined

NO_NET = 0


# For each part, by its least piece and in order, the nets of its pieces.
def nets_by_part(board):
    found = {}
    least = least_joined(board)
    for number in board.numbers():
        nets = found.setdefault(least[number], {})
        if board.pieces[number].net != NO_NET:
            nets[board.pieces[number].net] = True
    return found


# For each net, how many pieces of each part have it.
def counts_by_net(board):
    found = {}
    least = least_joined(board)
    for number in board.numbers():
        net = board.pieces[number].net
        if net != NO_NET:
            counts = found.setdefault(net, {})
            counts[least[number]] = counts.get(least[number], 0) + 1
    return found


def shorted_parts(board):
    return [(part, sorted(nets)) for part, nets in nets_by_part(board).items() if len(nets) > 1]


def nets_apart(board):
    found = counts_by_net(board)
    return [(net, sorted(found[net])) for net in sorted(found) if len(found[net]) > 1]


def loose_pieces(board):
    found = nets_by_part(board)
    least = least_joined(board)
    return [number for number in board.numbers() if len(found[least[number]]) == 0]


# Of each net: the net, how many pieces have it, and of how many parts these are.
def net_counts(board):
    found = counts_by_net(board)
    return [(net, sum(found[net].values()), len(found[net])) for net in sorted(found)]
