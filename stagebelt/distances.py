"""Waits without holes, and the distances that they tell."""

from stagebelt.errors import NotMade
from stagebelt.rights import is_right


def greatest_waits(design):
    """For each entry among the waits, told without its beats, the greatest number of beats that it has there."""
    # The waits ascend, so of one entry the greatest number stands last.
    return {entry[:-1]: entry[-1] for entry in design[4]}


def are_with_holes(design):
    """Whether the waits of a design have holes."""
    greatest = greatest_waits(design)
    # Of unlike numbers from 1 on there are as many as the greatest one tells only if none is lacking.
    return len(design[4]) < sum(greatest.values())


def distance_told(greatest, told):
    """The distance of an entry, told without its beats; greatest is of a design without holes."""
    found = greatest.get(told, 0) + 1
    if told[:3] == ("value", "load", "store"):
        return max(found, greatest.get(("memory", "load", "store"), 0) + 1)
    return found


def check_without_holes(design):
    """Raise NotMade for a design with holes."""
    if are_with_holes(design):
        raise NotMade("the waits have holes")


def check_right_without_holes(design):
    """Raise NotMade for any design but a right one without holes."""
    check_without_holes(design)
    if not is_right(design):
        raise NotMade("the design is not right")
