"""The belt itself: what happens on it in a beat."""

from stagebelt.designs import LAST_PLACE, last_place_among, places_of_kinds, use_place_among
from stagebelt.guessers import Guesses
from stagebelt.laid import Laid, has_to_wait, last_writer
from stagebelt.plain import cell_told, goes_to_goal, made_of, replaced
from stagebelt.programs import part_of


class Belt:
    """A run of a program on the belt of a design, which goes on beat by beat; all values are checked already."""

    def __init__(self, design, program, state, guesser):
        self.read_place, self.same = design[:2]
        self.places = places_of_kinds(design)
        self.paths = {path: True for path in design[3]}
        self.waits = {entry: True for entry in design[4]}
        self.program = program
        self.registers, self.cells, self.shown = state
        self.guesses = Guesses(guesser, len(program))
        self.beat = 0
        self.following = 0
        self.laid = []
        self.memory_uses = 0

    def whole_state(self):
        """The state behind the last beat."""
        return self.registers, self.cells, self.shown

    def done_so_far(self):
        """How many instructions were laid on and not thrown away."""
        return len([item for item in self.laid if not item.thrown_away])

    def place(self, item):
        """The place at which an instruction is in this beat."""
        return self.beat - item.beat

    def on_it(self):
        """What is at a place up to the last one and was not thrown away, in the order of laying on."""
        # No two are laid on in one beat, so no others can be at these places.
        latest = self.laid[-1 - LAST_PLACE:]
        return [item for item in latest if self.place(item) <= LAST_PLACE and not item.thrown_away]

    def is_at(self, item, what):
        """Whether an instruction is at a place of this word in this beat."""
        return self.places[item.kind].get(what) == self.place(item)

    def is_through(self):
        """Whether nothing has its last place in this beat or a later one."""
        return all([last_place_among(self.places[item.kind]) < self.place(item) for item in self.on_it()])

    def has_ended(self):
        """Whether the run ends ahead of this beat."""
        return self.following == len(self.program) and self.is_through()

    def lay_on_next(self):
        """Lay the next instruction on, unless the end is next or it waits."""
        number = self.following
        if number == len(self.program):
            return
        instruction = self.program[number]
        if has_to_wait(self.waits, self.on_it(), instruction, self.beat):
            return
        item = Laid(instruction, self.beat, number)
        self.laid.append(item)
        self.following = number + 1
        if item.goal is not None:
            item.guess = self.guesses.guessed(number, item.goal)
            self.following = item.guess

    def write_and_put(self, belt):
        """Let all that is at its place to do so write its register or put into its cell."""
        for item in belt:
            if self.is_at(item, "written"):
                self.registers = replaced(self.registers, item.target, item.result)
            if self.is_at(item, "put"):
                cell = cell_told(item.instruction, item.words["a"])
                self.cells = replaced(self.cells, cell, item.words["b"])
                self.memory_uses += 1

    def word_taken(self, item, earlier, used):
        """The word that an instruction takes in this beat for a register."""
        writer = last_writer(earlier, used)
        if writer is not None:
            path = (self.place(writer), self.place(item))
            if path in self.paths and path[0] > self.places[writer.kind]["made"]:
                return writer.result
        return item.registers[used]

    def take_words(self, item, earlier):
        """Let an instruction take the words that it uses at the place where it is."""
        for part in ("a", "b"):
            used = part_of(item.instruction, part)
            if used is not None and use_place_among(self.places[item.kind], part) == self.place(item):
                item.words[part] = self.word_taken(item, earlier, used)

    def make(self, item):
        """Let an instruction make or fetch its result, or show its word, where it is time to."""
        if self.is_at(item, "made"):
            item.result = made_of(item.instruction, item.words["a"], item.words["b"], self.cells)
        if self.is_at(item, "fetched"):
            self.memory_uses += 1
        if self.is_at(item, "shown"):
            self.shown += (item.words["a"],)

    def decide(self, item, behind):
        """Decide a jump; if its guess was wrong, throw away what was laid on behind it."""
        to_goal = goes_to_goal(item.instruction, item.words["a"])
        self.guesses.learn(item.number, to_goal)
        right = item.goal if to_goal else item.number + 1
        if item.guess == right:
            return
        item.guessed_right = False
        for other in behind:
            other.thrown_away = True
        self.following = right

    def work(self):
        """Do all of this beat but the laying on, and go on to the next beat."""
        belt = self.on_it()
        if self.same:
            self.write_and_put(belt)
        for item in belt:
            if self.place(item) == self.read_place:
                item.registers = self.registers
        for at, item in enumerate(belt):
            self.take_words(item, belt[:at])
            self.make(item)
        if not self.same:
            self.write_and_put(belt)
        for at, item in enumerate(belt):
            if self.is_at(item, "decided") and not item.thrown_away:
                self.decide(item, belt[at + 1:])
        self.beat += 1

    def go_on(self):
        """Do all of this beat, and go on to the next one."""
        self.lay_on_next()
        self.work()
