"""Bodies: instructions that are done again and again, how many beats their rounds take, and their rings."""

from itertools import combinations, permutations
from math import gcd

from stagebelt.checks import is_within
from stagebelt.designs import JUMPS
from stagebelt.distances import distance_told, greatest_waits
from stagebelt.errors import BadBody, BadRing
from stagebelt.laid import Laid, waited_for
from stagebelt.laying import Laying
from stagebelt.programs import is_instruction, kind_of

MOST_IN_BODY = 6


def is_body(value):
    """Whether a value is a body."""
    if not isinstance(value, tuple) or not 1 <= len(value) <= MOST_IN_BODY:
        return False
    return all(is_instruction(item) and kind_of(item) not in JUMPS for item in value)


def check_body(body):
    """Raise BadBody for any value that is no body."""
    if not is_body(body):
        raise BadBody("no tuple of 1 to 6 instructions that are no jumps")


def in_lowest_terms(one, other):
    """The fraction of two numbers, the second at least 1."""
    common = gcd(one, other)
    return one // common, other // common


def rounds_counted(design, body):
    """(counts, first): the beats of 0, 1, 2 .. rounds, until all goes on as behind round number first."""
    laying = Laying(design)
    counts = [0]
    behind_rounds = {}
    # How a round is laid on depends only on how the latest ones stand; the ways to stand are
    # finitely many, so that one comes again.
    while laying.standing() not in behind_rounds:
        behind_rounds[laying.standing()] = len(counts) - 1
        for instruction in body:
            laying.lay_on(instruction, True)
        counts.append(laying.ending)
    return counts, behind_rounds[laying.standing()]


def beats_of_rounds(counts, first, rounds):
    """The beats of any number of rounds, counts and first being as rounds_counted tells them."""
    if rounds < len(counts):
        return counts[rounds]
    again, rest = divmod(rounds - first, len(counts) - 1 - first)
    return counts[first + rest] + again * (counts[-1] - counts[first])


def pace_counted(counts, first):
    """The fraction of the beats that a round takes in the long run, by what rounds_counted tells."""
    return in_lowest_terms(counts[-1] - counts[first], len(counts) - 1 - first)


def told_distance(greatest, body, place, other, on):
    """The told distance of a step from one place of a body to another one, on rounds later."""
    many = on * len(body) + other - place
    # With one instruction laid on a beat, only the one from which the step begins is so many beats ahead.
    ahead = [Laid(body[(place + beat) % len(body)], beat) for beat in range(many)]
    met = [entry[:-1] for entry in waited_for(ahead, body[other], many) if entry[-1] == many]
    return max([many] + [distance_told(greatest, told) for told in met])


def told_distances(design, body):
    """For each step that a ring may have, as (place, next place, on), its told distance."""
    greatest = greatest_waits(design)
    places = range(len(body))
    return {
        (place, other, on): told_distance(greatest, body, place, other, on)
        for place in places for other in places for on in (0, 1) if on == 1 or place < other
    }


def steps_of(ring):
    """The list of the steps of a ring, as (place, next place, on)."""
    return [(place, other, on) for (place, on), (other, _) in zip(ring, ring[1:] + ring[:1])]


def rounds_of(ring):
    """How many rounds a ring goes on."""
    return sum([on for _, on in ring])


def is_ring_pair(value, many):
    """Whether a value can be a pair of a ring in a body of so many instructions."""
    if not isinstance(value, tuple) or len(value) != 2:
        return False
    return is_within(value[0], 0, many - 1) and is_within(value[1], 0, 1)


def is_ring(value, many):
    """Whether a value is a ring of a body of so many instructions."""
    if not isinstance(value, tuple) or not all(is_ring_pair(item, many) for item in value):
        return False
    places = [place for place, _ in value]
    if len(set(places)) < len(places) or rounds_of(value) < 1:
        return False
    return all(on == 1 or place < other for place, other, on in steps_of(value))


def check_ring(ring, body):
    """Raise BadRing for any value that is no ring of a body."""
    if not is_ring(ring, len(body)):
        raise BadRing("no ring of the body")


def pace_of_ring(distances, ring):
    """The fraction of all told distances of a ring by its rounds, in lowest terms."""
    return in_lowest_terms(sum([distances[step] for step in steps_of(ring)]), rounds_of(ring))


def rings_through(places):
    """All rings that have these places in this order."""
    rings = [()]
    for place, other in zip(places, places[1:] + places[:1]):
        choices = (0, 1) if place < other else (1,)
        rings = [ring + ((place, on),) for ring in rings for on in choices]
    return rings


def rings_of(many, length):
    """All rings of so many pairs in a body of so many instructions, each begun at its least place."""
    rings = []
    for chosen in combinations(range(many), length):
        others = list(chosen[1:])
        for behind in permutations(others):
            rings.extend(rings_through(chosen[:1] + behind))
    return rings


def least_ring(distances, many, told):
    """The least of the shortest rings with a pace that is told, of a body of so many instructions."""
    for length in range(1, many + 1):
        # The least place is that of the least pair, so a ring is least where it begins at it.
        found = [ring for ring in rings_of(many, length) if pace_of_ring(distances, ring) == told]
        if found != []:
            return min(found)
    return None
