"""Which designs are slower, the pace of bodies, and the orders of blocks that lose least."""

from itertools import permutations

from stagebelt.bodies import beats_of_rounds, check_body, check_ring, least_ring, pace_counted, pace_of_ring
from stagebelt.bodies import rounds_counted, told_distances
from stagebelt.checks import check_number
from stagebelt.designs import KINDS, all_entries, check_design, check_entry, last_place_among, places_of_kinds
from stagebelt.distances import are_with_holes, check_right_without_holes, check_without_holes, distance_told
from stagebelt.distances import greatest_waits
from stagebelt.errors import NotMade
from stagebelt.laying import all_laid
from stagebelt.orders import check_order, keeps, kept_pairs
from stagebelt.pairs import OF_KIND, pair_in_trace

MOST_ROUNDS = 10 ** 9

# Behind a pair of instructions, so many idle ones are laid on that no last place of the pair is behind theirs.
IDLE_BEHIND = 8


def has_holes(design):
    """Whether the waits of a design are not without holes."""
    check_design(design)
    return are_with_holes(design)


def filled(design):
    """The design with the least waits without holes that hold all of its waits."""
    check_design(design)
    waits = tuple(sorted({entry[:-1] + (beats,) for entry in design[4] for beats in range(1, entry[-1] + 1)}))
    return design[:4] + (waits,)


def distance(design, entry):
    """The least number of beats behind an earlier instruction at which a later one does not wait."""
    check_design(design)
    check_entry(entry)
    check_without_holes(design)
    return distance_told(greatest_waits(design), entry[:-1])


def greater_kind(one, other):
    """The first kind whose last place in one design is greater than in another one, None if there is none."""
    places, other_places = places_of_kinds(one), places_of_kinds(other)
    for kind in KINDS:
        if last_place_among(places[kind]) > last_place_among(other_places[kind]):
            return kind
    return None


def greater_entry(one, other):
    """The least entry whose distance in one design is greater than in another one, None if there is none."""
    greatest, other_greatest = greatest_waits(one), greatest_waits(other)
    for entry in all_entries():
        told = entry[:-1]
        if entry[-1] == 1 and distance_told(greatest, told) > distance_told(other_greatest, told):
            return entry
    return None


def right_trace(instructions):
    """The trace of some instructions, with all guesses right."""
    return tuple([(instruction, True) for instruction in instructions])


def slower_trace(one, other):
    """A trace for which one design has more beats than another one, None if there is none."""
    check_design(one)
    check_design(other)
    check_right_without_holes(one)
    check_right_without_holes(other)
    kind = greater_kind(one, other)
    if kind is not None:
        return right_trace((OF_KIND[kind],))
    entry = greater_entry(one, other)
    if entry is not None:
        return right_trace(pair_in_trace(entry) + (OF_KIND["idle"],) * IDLE_BEHIND)
    return None


def never_slower(one, other):
    """Whether one design has for no trace more beats than another one."""
    return slower_trace(one, other) is None


def rounds_beats(design, body, rounds):
    """The number of beats of so many rounds of a body."""
    check_design(design)
    check_body(body)
    check_number(rounds, 0, MOST_ROUNDS)
    check_right_without_holes(design)
    counts, first = rounds_counted(design, body)
    return beats_of_rounds(counts, first, rounds)


def pace(design, body):
    """The fraction, in lowest terms, of the beats that a round of a body takes in the long run."""
    check_design(design)
    check_body(body)
    check_right_without_holes(design)
    counts, first = rounds_counted(design, body)
    return pace_counted(counts, first)


def ring_pace(design, body, ring):
    """The fraction, in lowest terms, of all told distances of a ring by its rounds."""
    check_design(design)
    check_body(body)
    check_ring(ring, body)
    check_right_without_holes(design)
    return pace_of_ring(told_distances(design, body), ring)


def pace_ring(design, body):
    """The least of the shortest rings that have the pace."""
    told = pace(design, body)
    return least_ring(told_distances(design, body), len(body), told)


def may_order(block, order):
    """Whether an order of a block keeps all that must be kept."""
    check_body(block)
    check_order(order, block)
    return keeps(kept_pairs(block), order)


def beats_in_order(design, block, order):
    """The number of beats of a block in an order."""
    laying, _ = all_laid(design, right_trace([block[place] for place in order]))
    return laying.ending


def best_order(design, block):
    """The least of the orders that may be and have the least number of beats."""
    check_design(design)
    check_body(block)
    pairs = kept_pairs(block)
    counted = []
    for order in permutations(range(len(block))):
        if keeps(pairs, order):
            counted.append((beats_in_order(design, block, order), order))
    return min(counted)[1]


def order_beats(design, block, order):
    """The number of beats of an order that may be."""
    check_design(design)
    if not may_order(block, order):
        raise NotMade("the order may not be")
    return beats_in_order(design, block, order)
