"""Stands of a field [29], its form and the move to it [30], fields that are alike and own moves [31]."""

from stakefield.errors import Flat
from stakefield.fields import field_moved
from stakefield.moves import behind, level, moved, way_back


def stand(corner, along, aside):
    move = level(corner, along)
    if moved(aside, move)[1] < 0:
        move = behind(move, (1, 0, 0, -1, 0, 0))
    place = moved(aside, move)
    # Nothing else is free then: to keep a levelled side where it lies is to push the rows along it.
    return behind(move, (1, -(place[0] // place[1]), 0, 1, 0, 0))


def stands(land):
    if len(land) < 3:
        raise Flat("a field of one or two corners has no stands")
    found = []
    for before, corner, after in zip(land[-1:] + land[:-1], land, land[1:] + land[:1]):
        found.append(stand(corner, before, after))
        found.append(stand(corner, after, before))
    return sorted(found)


def to_form(land):
    if len(land) == 1:
        return (1, 0, 0, 1, -land[0][0], -land[0][1])
    if len(land) == 2:
        return level(land[0], land[1])
    # The stands are in order, and of those with one and the same field min takes the first.
    return min(stands(land), key=lambda move: field_moved(land, move))


def form(land):
    return field_moved(land, to_form(land))


def alike(one, other):
    move = to_form(one)
    other_move = to_form(other)
    if field_moved(one, move) != field_moved(other, other_move):
        return None
    return behind(move, way_back(other_move))


def own_moves(land):
    # A move that takes the field to itself, with the move to the form behind it, is one of the stands.
    there = stands(land)
    back = way_back(to_form(land))
    found = [behind(move, back) for move in there]
    return sorted([move for move in found if field_moved(land, move) == land])
