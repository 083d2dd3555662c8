"""A second belt, written straight from the document, to compare with; and random designs and guessers."""

import itertools

from tests.reference import random_program, random_state

KIND = {"add": "sum", "sub": "sum", "and": "sum", "less": "sum"}
WORDS = {
    "set": ("made", "written"), "sum": ("used", "made", "written"), "mul": ("used", "made", "written"),
    "load": ("used", "fetched", "written"), "store": ("used a", "used b", "put"),
    "zero": ("used", "decided"), "go": ("decided",), "out": ("used", "shown"),
}
ENDS = {"set": "written", "sum": "written", "mul": "written", "load": "written", "store": "put",
        "zero": "decided", "go": "decided", "out": "shown"}


def parts(instruction):
    """(register written or None, list of (role, word's name, register)) of an instruction."""
    name, *numbers = instruction
    if name == "set":
        return numbers[0], []
    if name in ("add", "sub", "and", "less", "mul"):
        return numbers[0], [("a", "one", numbers[1]), ("a", "two", numbers[2])]
    if name == "load":
        return numbers[0], [("a", "one", numbers[1])]
    if name == "store":
        return None, [("b", "two", numbers[0]), ("a", "one", numbers[1])]
    if name in ("zero", "out"):
        return None, [("a", "one", numbers[0])]
    return None, []


def result_of(one, cells):
    """What a writing instruction makes, a dict of a laid instruction given."""
    name, *numbers = one["instruction"]
    if name == "set":
        return numbers[1]
    if name == "load":
        return cells[(one["one"] + numbers[2]) % 16]
    x, y = one["one"], one["two"]
    return {"add": x + y, "sub": x - y, "and": x & y, "less": int(x < y), "mul": x * y}[name] % 65536


class ReferenceBelt:
    def __init__(self, design, program, state, guesser):
        self.read, self.same, rows, self.paths, self.waits = design
        self.where = {kind: dict(zip(words, row)) for (kind, words), row in zip(WORDS.items(), rows)}
        self.where["idle"] = {}
        self.program, self.guesser = program, guesser
        self.registers, self.cells, self.shown = (list(part) for part in state)
        self.next = self.beat = self.jumps = 0
        self.counters = [0] * 8
        self.laid = []
        self.snapshots = []
        self.uses = 0

    def ahead(self):
        """Whether something that was not thrown away has its last place ahead."""
        return any(one["beat"] + one["last"] >= self.beat for one in self.kept())

    def over(self):
        return self.next == len(self.program) and not self.ahead()

    def kept(self):
        """What was not thrown away, of the latest only: nothing older is looked at by any rule."""
        return [one for one in self.laid[-12:] if not one["thrown"]]

    def writers(self, wanted, among):
        return [one for one in among if one["target"] == wanted]

    def waiting(self, instruction, kind):
        target, uses = parts(instruction)
        for one in self.kept():
            d = self.beat - one["beat"]
            if ("memory", one["kind"], kind, d) in self.waits or ("wrong", one["kind"], kind, d) in self.waits:
                return True
            if target is not None and one["target"] == target and ("order", one["kind"], kind, d) in self.waits:
                return True
        for role, _, used in uses:
            for one in self.writers(used, self.kept())[-1:]:
                if ("value", one["kind"], kind, role, self.beat - one["beat"]) in self.waits:
                    return True
        return False

    def guess(self, at, goal):
        word, *told = self.guesser
        self.jumps += 1
        if word == "row":
            return told[0][(self.jumps - 1) % len(told[0])] % (len(self.program) + 1)
        if word == "table":
            return goal if self.counters[at % told[0]] >= told[1] else at + 1
        return {"next": at + 1, "goal": goal}[word]

    def lay(self):
        if self.next == len(self.program):
            return
        at, instruction = self.next, self.program[self.next]
        kind = KIND.get(instruction[0], instruction[0])
        if self.waiting(instruction, kind):
            return
        one = {"instruction": instruction, "number": at, "kind": kind, "beat": self.beat, "thrown": False,
               "target": parts(instruction)[0], "last": self.where[kind].get(ENDS.get(kind), 0), "guess": None}
        self.next = at + 1
        if kind in ("zero", "go"):
            one["guess"] = self.next = self.guess(at, instruction[-1])
        self.laid.append(one)

    def taken(self, one, used):
        u = self.beat - one["beat"]
        earlier = [other for other in self.kept() if other["beat"] < one["beat"]]
        for other in self.writers(used, earlier)[-1:]:
            q = self.beat - other["beat"]
            made = self.where[other["kind"]]["fetched" if other["kind"] == "load" else "made"]
            if q <= 7 and (q, u) in self.paths and q > made:
                return other["result"]
        return one["read"][used]

    def write(self, here):
        for one in here("written"):
            self.registers[one["target"]] = one["result"]
        for one in here("put"):
            self.cells[(one["one"] + one["instruction"][3]) % 16] = one["two"]
            self.uses += 1

    def decide(self, one):
        goes = one["kind"] == "go" or one["one"] == 0
        right = one["instruction"][-1] if goes else one["number"] + 1
        if self.guesser[0] == "table":
            at = one["number"] % self.guesser[1]
            most = 2 ** self.guesser[2] - 1
            self.counters[at] = max(0, min(most, self.counters[at] + (1 if goes else -1)))
        if right != one["guess"]:
            self.next = right
            for other in self.laid[-12:]:
                other["thrown"] = other["thrown"] or other["beat"] > one["beat"]

    def go_beat(self, laying=True):
        if laying:
            self.lay()
        self.snapshots.append(tuple((self.beat - one["beat"], one["number"]) for one in self.kept()
                                    if self.beat - one["beat"] <= 7))
        recent = [one for one in self.kept() if self.beat - one["beat"] <= 7]

        def here(word):
            return [one for one in recent if self.where[one["kind"]].get(word) == self.beat - one["beat"]]

        if self.same:
            self.write(here)
        for one in recent:
            if self.beat - one["beat"] == self.read:
                one["read"] = tuple(self.registers)
        for one in recent:
            for role, word, used in parts(one["instruction"])[1]:
                if one in here("used") or one in here("used " + role):
                    one[word] = self.taken(one, used)
        for one in here("fetched"):
            self.uses += 1
        for one in here("made") + here("fetched"):
            one["result"] = result_of(one, self.cells)
        self.shown.extend(one["one"] for one in here("shown"))
        if not self.same:
            self.write(here)
        for one in here("decided"):
            if not one["thrown"]:
                self.decide(one)
        self.beat += 1

    def state(self):
        return tuple(self.registers), tuple(self.cells), tuple(self.shown)

    def done(self):
        return sum(not one["thrown"] for one in self.laid)


def reference_belt(design, program, state, guesser, stop=None):
    """The belt at the end of a run, or of one broken at a beat, or ahead of beat 1000 without an end."""
    belt = ReferenceBelt(design, program, state, guesser)
    if stop is None:
        while not belt.over() and belt.beat < 1000:
            belt.go_beat()
        return belt
    while not belt.over() and belt.beat < stop:
        belt.go_beat()
    while belt.ahead():
        belt.go_beat(False)
    return belt


def row_fits(kind, row, read):
    """Whether a row of places keeps the document's conditions for its kind."""
    if kind == "go":
        return True
    if kind == "set":
        return row[0] < row[1] > read
    if kind == "store":
        return read <= row[0] < row[2] and read <= row[1] < row[2]
    if kind in ("zero", "out"):
        return read <= row[0] <= row[1]
    return read <= row[0] <= row[1] < row[2]


def all_rows(kind, read):
    """All rows of places that a kind may have."""
    return [row for row in itertools.product(range(8), repeat=len(WORDS[kind])) if row_fits(kind, row, read)]


ROWS = {(kind, read): all_rows(kind, read) for kind in WORDS for read in range(7)}


def reference_entries():
    """The list of all entries, ascending."""
    writing, beats = ("set", "sum", "mul", "load"), range(1, 8)
    users = [("sum", "a"), ("mul", "a"), ("load", "a"), ("store", "a"), ("store", "b"), ("zero", "a"), ("out", "a")]
    found = [("value", k, l, role, d) for k in writing for l, role in users for d in beats]
    found += [("order", k, l, d) for k in writing for l in writing for d in beats]
    found += [("memory", "store", "load", d) for d in beats] + [("memory", "load", "store", d) for d in beats]
    found += [("wrong", j, l, d) for j in ("zero", "go") for l in writing + ("store", "out") for d in beats]
    return sorted(found)


ENTRIES = reference_entries()
PATHS = [(q, u) for q in range(8) for u in range(q)]


def random_part(source, items):
    """A random ascending tuple of some of the items, often none and often all."""
    share = source.choice((0, 0.05, 0.3, 0.7, 1))
    return tuple(item for item in items if source.random() < share)


def random_design(source):
    """Any design; source is a random.Random."""
    read = source.choice((0, 0, 1, 1, 1, 2, 2, 3, 4, 5, 6))
    rows = tuple(source.choice(ROWS[kind, read]) for kind in WORDS)
    waits = random_part(source, source.choice((ENTRIES, source.sample(ENTRIES, 20), ())))
    return read, source.choice((True, False)), rows, random_part(source, PATHS), tuple(sorted(waits))


def random_guesser(source):
    """Any guesser; source is a random.Random."""
    row = tuple(source.randrange(61) for _ in range(source.choice((1, 2, 3, 10, 60))))
    table = ("table", source.randint(1, 8), source.randint(1, 2))
    return source.choice((("next",), ("goal",), ("row", row), table))


def random_short_program(source):
    """A program of few instructions over few registers, so that they meet often."""
    many = source.randrange(12)
    program = list(random_program(source)[:many])
    size = len(program)
    for at, (name, *numbers) in enumerate(program):
        if name == "zero":
            numbers[1] = source.randrange(size + 1)
        if name == "go":
            # Most jumps go on, so that most programs end.
            numbers[0] = source.choice((source.randrange(size + 1), source.randint(at + 1, size)))
        held = {"add": 3, "sub": 3, "and": 3, "less": 3, "mul": 3, "load": 2, "store": 2, "set": 1, "zero": 1, "out": 1}
        for k in range(held.get(name, 0)):
            numbers[k] %= 3
        program[at] = (name, *numbers)
    return tuple(program)


def random_run(source):
    """The arguments of a run."""
    return random_design(source), random_short_program(source), random_state(source), random_guesser(source)
