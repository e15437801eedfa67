"""What is joined on a board: parts, shortest chains, and how far pieces are reached."""


# For each piece joined with start, how many pieces the shortest chain from start to it
# has besides start.
def steps_from(board, start):
    steps = {start: 0}
    rim = [start]
    count = 0
    while len(rim) > 0:
        count = count + 1
        reached = []
        for number in rim:
            for other in board.touching(number):
                if other not in steps:
                    steps[other] = count
                    reached.append(other)
        rim = reached
    return steps


def members(board, number):
    return sorted(steps_from(board, number))


def parts(board):
    seen = {}
    least = []
    for number in board.numbers():
        if number not in seen:
            least.append(number)
            seen.update(steps_from(board, number))
    return least


# Steps are counted from the end, so that the least of the next pieces that still lie
# on a shortest chain can be taken at each place from the beginning on.
def shortest_chain(board, start, end):
    steps = steps_from(board, end)
    if start not in steps:
        return []
    chain = [start]
    while chain[-1] != end:
        left = steps[chain[-1]] - 1
        nearer = [other for other in board.touching(chain[-1]) if steps[other] == left]
        chain.append(nearer[0])
    return chain


def reached_within(board, start, most):
    steps = steps_from(board, start)
    return sorted([number for number in steps if steps[number] <= most])
