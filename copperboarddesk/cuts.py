"""Which pieces hold others together, told by one walk through each part."""

from copperboarddesk.joins import parts


# The pieces joined with the root in the order of a walk that always goes on from the piece
# come to last, each with the piece that it was come to from (the root with itself). A piece
# waits once for each that touches it, and the latest one counts: so of two that touch, the
# one always lies on the other's branch, never on another branch beside it.
def walk_from(board, root):
    came_from = {}
    waiting = [(root, root)]
    while len(waiting) > 0:
        step = waiting.pop()
        number = step[0]
        if number not in came_from:
            came_from[number] = step[1]
            waiting.extend([(other, number) for other in board.touching(number) if other not in came_from])
    return came_from


def places_on(came_from):
    places = {}
    for place, number in enumerate(came_from):
        places[number] = place
    return places


# For each piece the earliest place on the walk of all that it and its branch touch. Gone
# through backwards, as a piece's branch comes behind it.
def earliest_touched(board, came_from, places):
    earliest = dict(places)
    for number in reversed(list(came_from)):
        touched = [places[other] for other in board.touching(number)]
        earliest[number] = min(touched + [earliest[number]])
        above = came_from[number]
        earliest[above] = min(earliest[above], earliest[number])
    return earliest


# The pieces that hang on the one that they were come to from: they and their branch touch
# nothing ahead of that one, so without it they aren't joined with anything there.
def hanging(board, came_from):
    places = places_on(came_from)
    earliest = earliest_touched(board, came_from, places)
    return [
        number for number in came_from
        if places[number] > 0 and earliest[number] == places[came_from[number]]
    ]


def cut_pieces(board):
    found = {}
    for root in parts(board):
        came_from = walk_from(board, root)
        held_by = [came_from[number] for number in hanging(board, came_from)]
        for number in held_by:
            # Nothing is ahead of the root: it holds its branches together only where it
            # has more than one.
            if number != root or held_by.count(root) > 1:
                found[number] = True
    return sorted(found)


# No pieces where the two aren't joined. What isn't on the walk's own way from start to end
# isn't needed, as that way goes without it.
def needed_between(board, start, end):
    came_from = walk_from(board, start)
    if end not in came_from:
        return []
    hung = hanging(board, came_from)
    found = []
    number = end
    while number != start:
        above = came_from[number]
        if above != start and number in hung:
            found.append(above)
        number = above
    return sorted(found)
