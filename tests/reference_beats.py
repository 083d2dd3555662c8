"""Beats, distances, rings and orders, written straight from the document's part four, to compare with."""

import itertools
from fractions import Fraction

from tests.reference_belt import ENTRIES, KIND, WORDS, parts, random_design
from tests.reference_table import made_right, reference_places

LASTS = {"set": "written", "sum": "written", "mul": "written", "load": "written", "store": "put", "zero": "decided",
         "go": "decided", "out": "shown"}
KINDS = ("idle", "set", "sum", "mul", "load", "store", "zero", "go", "out")
TOLD = sorted({entry[:-1] for entry in ENTRIES})


def kind(instruction):
    return KIND.get(instruction[0], instruction[0])


def reference_lasts(design):
    """For each kind its last place."""
    where = reference_places(design)
    return {name: 0 if name == "idle" else where[name][LASTS[name]] for name in KINDS}


def reference_waits(design, earlier, instruction, beat):
    """Whether an instruction waits in a beat; earlier has all (instruction, beat) ahead of it."""
    waits, target = set(design[4]), parts(instruction)[0]
    for other, laid in earlier:
        pair, d = (kind(other), kind(instruction)), (beat - laid,)
        if ("memory",) + pair + d in waits or ("wrong",) + pair + d in waits:
            return True
        if target is not None and parts(other)[0] == target and ("order",) + pair + d in waits:
            return True
    for role, _, used in parts(instruction)[1]:
        for other, laid in [row for row in earlier if parts(row[0])[0] == used][-1:]:
            if ("value", kind(other), kind(instruction), role, beat - laid) in waits:
                return True
    return False


def reference_laid_beats(design, trace):
    where, laid, beat = reference_places(design), [], 0
    for instruction, right in trace:
        while reference_waits(design, laid, instruction, beat):
            beat += 1
        laid.append((instruction, beat))
        beat += 1 if right else where[instruction[0]]["decided"] + 1
    return tuple(beat for _, beat in laid)


def reference_beats_of(design, trace):
    lasts = reference_lasts(design)
    laid = reference_laid_beats(design, trace)
    return max([beat + lasts[kind(step[0])] + 1 for step, beat in zip(trace, laid)], default=0)


def rightly(instructions):
    """A trace of these instructions without a wrong guess."""
    return tuple((instruction, True) for instruction in instructions)


def reference_distance(design, told):
    """The distance of an entry that is told without its beats, in a design without holes."""
    found = max([entry[-1] for entry in design[4] if entry[:-1] == told], default=0) + 1
    if told[:3] == ("value", "load", "store"):
        return max(found, reference_distance(design, ("memory", "load", "store")))
    return found


def reference_told_distance(design, body, i, j, on):
    """The told distance of the step from place i to place j, on rounds later."""
    many = on * len(body) + j - i
    one, other = body[i], body[j]
    between = [body[(i + k) % len(body)] for k in range(1, many)]
    pair = (kind(one), kind(other))
    target, uses = parts(other)
    written = parts(one)[0]
    met = [("memory",) + pair]
    if written is not None and written == target:
        met.append(("order",) + pair)
    for role, _, used in uses:
        if written == used and all(parts(item)[0] != used for item in between):
            met.append(("value",) + pair + (role,))
    return max([many] + [reference_distance(design, told) for told in met])


def all_rings(many):
    """All rings of a body of so many instructions."""
    for length in range(1, many + 1):
        for places in itertools.permutations(range(many), length):
            for ons in itertools.product((0, 1), repeat=length):
                nexts = places[1:] + places[:1]
                if all(on == 1 or place < other for place, other, on in zip(places, nexts, ons)):
                    yield tuple(zip(places, ons))


def reference_ring_pace(design, body, ring):
    nexts = ring[1:] + ring[:1]
    told = [reference_told_distance(design, body, i, j, on) for (i, on), (j, _) in zip(ring, nexts)]
    return Fraction(sum(told), sum(on for _, on in ring))


def reference_pace_ring(design, body):
    """(pace, ring) by a look at all rings."""
    paced = [(reference_ring_pace(design, body, ring), ring) for ring in all_rings(len(body))]
    pace = max(told for told, _ in paced)
    rings = [ring for told, ring in paced if told == pace]
    return (pace.numerator, pace.denominator), min(rings, key=lambda ring: (len(ring), ring))


def must_stay(one, other):
    """Whether two instructions stay in their order."""
    names = {one[0], other[0]}
    if "store" in names and names <= {"store", "load"} or names == {"out"}:
        return True
    for x, y in ((one, other), (other, one)):
        written = parts(x)[0]
        if written is not None and written in [parts(y)[0]] + [used for _, _, used in parts(y)[1]]:
            return True
    return False


def reference_may_order(block, order):
    where = {place: at for at, place in enumerate(order)}
    return all(where[i] < where[j] for i, j in itertools.combinations(range(len(block)), 2)
               if must_stay(block[i], block[j]))


def reference_best_order(design, block):
    orders = [order for order in itertools.permutations(range(len(block))) if reference_may_order(block, order)]
    return min(orders, key=lambda order: (reference_beats_of(design, rightly(block[at] for at in order)), order))


def without_holes(design):
    """The design with all waits that fill the holes of its own."""
    waits = {entry[:-1] + (d,) for entry in design[4] for d in range(1, entry[-1] + 1)}
    return design[:4] + (tuple(sorted(waits)),)


def random_even_design(source):
    """A right design without holes; some have more waits than they need, and many have the places of others."""
    design = random_design(source)
    if source.random() < 0.6:
        design = design[:4] + ((),)
    return without_holes(made_right(design))


def random_step_of(source, registers=3, jumps=True):
    """Any instruction over few registers and cells, so that they meet often."""
    r = lambda: source.randrange(registers)
    n = lambda: source.randrange(16)
    choices = [
        ("idle",), ("set", r(), source.randrange(65536)), ("mul", r(), r(), r()), ("load", r(), r(), n()),
        ("store", r(), r(), n()), ("out", r()), (source.choice(("add", "sub", "and", "less")), r(), r(), r())]
    if jumps:
        choices += [("zero", r(), source.randrange(61)), ("go", source.randrange(61))]
    return source.choice(choices)


def random_trace(source, most=12):
    """Any trace of at most so many steps."""
    steps = [random_step_of(source) for _ in range(source.randint(0, most))]
    return tuple((step, step[0] not in ("zero", "go") or source.random() < 0.6) for step in steps)


def random_body(source, most=6):
    """Any body; in half of them each instruction uses what one other writes, so that rings take many rounds."""
    many = source.randint(1, most)
    if source.random() < 0.5:
        return tuple(random_step_of(source, jumps=False) for _ in range(many))
    used = source.sample(range(many), many)
    return tuple((name, at, used[at], used[at] if name != "load" else at)
                 for at, name in enumerate(source.choices(("add", "mul", "load"), k=many)))
