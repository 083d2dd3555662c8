"""Points 12 to 14: what happens on the belt in each beat, by hand-made designs and programs."""

import unittest

from stagebelt.belts import laid_on, on_belt, run
from tests.samples import DESIGN, EARLIEST, LATEST, START, with_part

IDLE = ("idle",)
NEXT = ("next",)
REGISTERS, CELLS, SHOWN = START
SET, SUM, MUL, LOAD, STORE, ZERO, GO, OUT = range(8)


def design_with(*rows, read=1, same=True, paths=(), waits=()):
    """The sample design with other rows of places, as pairs (number of the kind, row), without paths."""
    places = DESIGN[2]
    for at, row in rows:
        places = with_part(places, at, row)
    return read, same, places, paths, waits


def apart(one, d, other):
    """A program in which other stands d places behind one."""
    return (one,) + (IDLE,) * (d - 1) + (other,)


def shown(design, program, guesser=NEXT):
    return run(design, program, START, guesser)[0][2]


def registers(design, program, guesser=NEXT):
    return run(design, program, START, guesser)[0][0]


def cells(design, program, guesser=NEXT):
    return run(design, program, START, guesser)[0][1]


def beats_laid(design, program, guesser=NEXT, state=START):
    return [beat for beat, _, _ in laid_on(design, program, state, guesser)]


class EndTest(unittest.TestCase):
    """When a run ends."""

    def test_no_instruction(self):
        for design in (DESIGN, EARLIEST, LATEST):
            self.assertEqual(run(design, (), START, NEXT), (START, 0, 0))

    def test_last_places(self):
        one_each = (("set", 1, 3), ("add", 1, 1, 1), ("mul", 1, 1, 1), ("load", 1, 1, 1), ("store", 1, 1, 1),
                    ("zero", 1, 1), ("go", 1), ("out", 1), IDLE)
        for design, told in (
                (DESIGN, [5, 5, 5, 5, 4, 3, 2, 3, 1]), (EARLIEST, [2, 2, 2, 2, 2, 1, 1, 1, 1]),
                (LATEST, [8, 8, 8, 8, 8, 8, 8, 8, 1])):
            self.assertEqual([run(design, (one,), START, NEXT)[2] for one in one_each], told)

    def test_the_greatest_last_place(self):
        self.assertEqual(run(DESIGN, (IDLE,) * 7, START, NEXT), (START, 7, 7))
        self.assertEqual(run(DESIGN, (("set", 1, 3),) + (IDLE,) * 3, START, NEXT)[2], 5)
        self.assertEqual(run(DESIGN, (("set", 1, 3),) + (IDLE,) * 4, START, NEXT)[2], 5)
        self.assertEqual(run(DESIGN, (("set", 1, 3),) + (IDLE,) * 5, START, NEXT)[2], 6)
        self.assertEqual(run(DESIGN, (IDLE, ("out", 1), ("go", 3)), START, NEXT)[2], 4)

    def test_what_is_thrown_away_keeps_nothing_going(self):
        self.assertEqual(run(LATEST, (("go", 2), ("out", 1)), START, NEXT), (START, 1, 8))
        self.assertEqual(run(DESIGN, (("go", 2), ("set", 0, 1)), START, NEXT), (START, 1, 2))


class ReadTest(unittest.TestCase):
    """Steps 2, 3 and 5: when a register that is written is read."""

    def test_same_beat(self):
        # Written in beat 4; the out behind reads in beat d + 1.
        for same, told in ((True, [2, 2, 9, 9]), (False, [2, 2, 2, 9])):
            design = design_with(same=same)
            self.assertEqual([shown(design, apart(("set", 1, 9), d, ("out", 1)))[0] for d in (1, 2, 3, 4)], told)

    def test_place_of_reading(self):
        # Read at place 0 and used at place 2, so a word that comes meanwhile is not seen.
        for read, same, told in ((0, True, [2, 2, 2, 9, 9]), (0, False, [2, 2, 2, 2, 9]), (2, True, [2, 9, 9, 9, 9]),
                                 (2, False, [2, 2, 9, 9, 9])):
            design = design_with(read=read, same=same)
            found = [shown(design, apart(("set", 1, 9), d, ("out", 1)))[0] for d in (1, 2, 3, 4, 5)]
            self.assertEqual(found, told, (read, same))

    def test_places_0_and_1(self):
        # A set is written in the beat behind its own; the out reads in the beat of its laying on.
        self.assertEqual(shown(EARLIEST, apart(("set", 1, 9), 1, ("out", 1))), (2,))
        self.assertEqual(shown(EARLIEST, apart(("set", 1, 9), 2, ("out", 1))), (9,))
        self.assertEqual(shown(with_part(EARLIEST, 1, True), apart(("set", 1, 9), 1, ("out", 1))), (9,))

    def test_place_7(self):
        # Written at place 7, read at place 6: d = 1 is the same beat.
        self.assertEqual(shown(LATEST, apart(("set", 1, 9), 1, ("out", 1))), (9,))
        self.assertEqual(shown(with_part(LATEST, 1, False), apart(("set", 1, 9), 1, ("out", 1))), (2,))
        self.assertEqual(shown(with_part(LATEST, 1, False), apart(("set", 1, 9), 2, ("out", 1))), (9,))

    def test_written_in_one_beat(self):
        # The load of beat 0 and the set of beat 1 are both written in beat 4.
        for same in (True, False):
            design = design_with((SET, (1, 3)), same=same)
            self.assertEqual(registers(design, (("load", 1, 0, 1), ("set", 1, 9)))[1], 9)
            self.assertEqual(registers(design, (("load", 1, 0, 1), IDLE, ("set", 1, 9)))[1], 9)
            # A shorter one is written ahead of a longer one that was laid on earlier.
            short = design_with((SET, (0, 2)), same=same)
            self.assertEqual(registers(short, (("load", 1, 0, 1), ("set", 1, 9)))[1], 3)

    def test_all_results(self):
        program = (("add", 0, 3, 4), ("sub", 1, 3, 4), ("and", 2, 3, 4), ("less", 5, 3, 4), ("mul", 6, 3, 4),
                   ("load", 7, 3, 4), ("set", 4, 65535))
        for design in (DESIGN, EARLIEST, LATEST, design_with()):
            self.assertEqual(registers(design, program), (11, 65535, 4, 5, 65535, 1, 30, 14))


class PathTest(unittest.TestCase):
    """Point 14: what is handed on ahead of its writing."""

    def seen(self, program, paths, *rows):
        return shown(design_with(*rows, paths=paths, same=False), program)[0]

    def test_one_path(self):
        for d, path in ((1, (3, 2)), (2, (4, 2))):
            program = apart(("set", 1, 9), d, ("out", 1))
            self.assertEqual(self.seen(program, (path,)), 9)
            others = tuple((q, u) for q in range(8) for u in range(q) if (q, u) != path)
            self.assertEqual(self.seen(program, others), 2)

    def test_past_its_writing(self):
        # A writer stays on the belt behind its writing, to place 7.
        early = with_part(EARLIEST, 2, with_part(EARLIEST[2], OUT, (5, 5)))
        for d, path in ((1, (6, 5)), (2, (7, 5))):
            program = apart(("set", 1, 9), d, ("out", 1))
            self.assertEqual(shown(with_part(early, 3, (path,)), program)[0], 9)
        self.assertEqual(shown(early, apart(("set", 1, 9), 1, ("out", 1)))[0], 2)
        self.assertEqual(shown(early, apart(("set", 1, 9), 2, ("out", 1)))[0], 9)

    def test_ahead_of_the_making(self):
        # At place 3 a set that is made at place 2 has a result, one that is made at place 3 has none.
        program = apart(("set", 1, 9), 1, ("out", 1))
        self.assertEqual(self.seen(program, ((3, 2),), (SET, (2, 4))), 9)
        self.assertEqual(self.seen(program, ((3, 2),), (SET, (3, 4))), 2)
        self.assertEqual(self.seen(program, ((3, 2),), (SET, (4, 5))), 2)
        load = apart(("load", 1, 0, 1), 1, ("out", 1))
        self.assertEqual(self.seen(load, ((3, 2),), (LOAD, (2, 2, 4))), 3)
        self.assertEqual(self.seen(load, ((3, 2),), (LOAD, (2, 3, 4))), 2)
        total = apart(("add", 1, 1, 1), 1, ("out", 1))
        self.assertEqual(self.seen(total, ((3, 2),), (SUM, (1, 2, 4))), 4)
        self.assertEqual(self.seen(total, ((3, 2),), (SUM, (1, 3, 4))), 2)
        product = apart(("mul", 1, 1, 3), 1, ("out", 1))
        self.assertEqual(self.seen(product, ((3, 2),), (MUL, (1, 2, 4))), 10)
        self.assertEqual(self.seen(product, ((3, 2),), (MUL, (1, 3, 4))), 2)

    def test_only_the_last_writer(self):
        program = (("set", 1, 8), ("set", 1, 9), ("out", 1))
        self.assertEqual(self.seen(program, ((3, 2),)), 9)
        # The one ahead of the last one is at the path's place, but not asked.
        self.assertEqual(self.seen(program, ((4, 2),)), 2)
        self.assertEqual(self.seen(program, ((3, 2), (4, 2))), 9)
        # The last one has not made its result yet, the one ahead of it has.
        loads = (("set", 1, 8), ("load", 1, 0, 1), ("out", 1))
        self.assertEqual(self.seen(loads, ((3, 2), (4, 2))), 2)
        others = (("set", 1, 9), ("set", 2, 8), ("out", 1))
        self.assertEqual(self.seen(others, ((4, 2),)), 9)

    def test_not_a_later_one(self):
        design = design_with((OUT, (5, 5)), paths=((3, 2), (4, 2), (6, 5)), same=False)
        self.assertEqual(shown(design, (("out", 1), ("set", 1, 9))), (2,))
        self.assertEqual(shown(design_with((OUT, (2, 2)), paths=((3, 2),)), (IDLE, ("out", 1), ("set", 1, 9))), (2,))

    def test_not_one_that_was_thrown_away(self):
        # The set is laid on in beat 1 and thrown away in it; it would be at place 3 when the out uses the register.
        program = (("go", 2), ("set", 1, 9), ("out", 1))
        self.assertEqual(shown(design_with(paths=((3, 2),)), program), (2,))

    def test_the_writer_ahead_of_what_was_thrown_away(self):
        # The second set is thrown away; the first one is at place 5 when the out of beat 3 uses the register.
        program = (("set", 1, 8), ("go", 3), ("set", 1, 9), ("out", 1))
        late = design_with((SET, (1, 7)), paths=((5, 2),))
        self.assertEqual(beats_laid(late, program), [0, 1, 2, 3])
        self.assertEqual(shown(late, program), (8,))
        self.assertEqual(shown(with_part(late, 3, ((3, 2), (4, 2))), program), (2,))

    def test_both_registers(self):
        design = design_with(paths=((3, 2), (4, 2)), same=False)
        self.assertEqual(registers(design, (("set", 1, 30), ("set", 2, 12), ("sub", 0, 1, 2)))[0], 18)
        self.assertEqual(registers(design, (("set", 1, 30), ("set", 2, 12), ("mul", 0, 2, 1)))[0], 360)
        self.assertEqual(registers(design, (("set", 1, 30), ("add", 1, 1, 1), ("add", 1, 1, 1)))[1], 120)

    def test_two_places_of_use(self):
        # Register a is used at place 2, register b at place 5; the set of one beat ahead is at 3 and 6.
        program = (("set", 3, 4), ("store", 3, 3, 0))
        for paths, told in (((), (5, 5)), (((3, 2),), (4, 5)), (((6, 5),), (5, 4)), (((3, 2), (6, 5)), (4, 4))):
            design = design_with((STORE, (2, 5, 6)), paths=paths, same=False)
            cell, word = told
            self.assertEqual(cells(design, program), with_part(CELLS, cell, word), paths)
        for paths, told in (((), (5, 5)), (((3, 2),), (5, 4)), (((6, 5),), (4, 5))):
            design = design_with((STORE, (5, 2, 6)), paths=paths, same=False)
            cell, word = told
            self.assertEqual(cells(design, program), with_part(CELLS, cell, word), paths)

    def test_jumps_take_by_paths(self):
        program = (("set", 1, 0), ("zero", 1, 3), ("out", 4))
        self.assertEqual(run(design_with(paths=((3, 2),)), program, START, ("goal",))[1], 2)
        self.assertEqual(run(design_with(), program, START, ("goal",))[1], 3)


class MemoryTest(unittest.TestCase):
    """Loads and stores, by the beats in which they fetch and put."""

    def test_fetched_in_the_beat_of_the_putting(self):
        # Put in beat 3; the load that is laid on d beats later fetches in beat d + 2.
        for same, told in ((True, [5, 5, 5]), (False, [9, 5, 5])):
            design = design_with((LOAD, (2, 2, 4)), same=same)
            found = [registers(design, apart(("store", 3, 0, 2), d, ("load", 1, 0, 2)))[1] for d in (1, 2, 3)]
            self.assertEqual(found, told)
        # Put in beat 5, fetched in beat d + 2.
        for same, told in ((True, [9, 9, 5]), (False, [9, 9, 9])):
            design = design_with((LOAD, (2, 2, 4)), (STORE, (2, 2, 5)), same=same)
            found = [registers(design, apart(("store", 3, 0, 2), d, ("load", 1, 0, 2)))[1] for d in (1, 2, 3)]
            self.assertEqual(found, told)

    def test_a_store_that_overtakes(self):
        # Fetched in beat 5; the store that is laid on d beats later puts in beat d + 3.
        for same, told in ((True, [5, 5, 9]), (False, [5, 9, 9])):
            design = design_with((LOAD, (2, 5, 6)), same=same)
            found = [registers(design, apart(("load", 1, 0, 2), d, ("store", 3, 0, 2)))[1] for d in (1, 2, 3)]
            self.assertEqual(found, told)

    def test_cells_by_the_words_taken(self):
        design = design_with(paths=((3, 2),), same=False)
        self.assertEqual(registers(design, (("set", 2, 7), ("load", 1, 2, 11)))[1], 9)
        self.assertEqual(cells(design, (("set", 2, 65535), ("store", 3, 2, 1))), with_part(CELLS, 0, 5))
        self.assertEqual(cells(design, (("set", 3, 300), ("store", 3, 2, 15))), with_part(CELLS, 15, 300))


class ShowTest(unittest.TestCase):
    def test_in_the_order_of_laying_on(self):
        self.assertEqual(shown(DESIGN, (("out", 3), ("out", 1), ("out", 4))), (5, 2, 6))
        self.assertEqual(run(DESIGN, (("out", 3),), (REGISTERS, CELLS, (1, 1)), NEXT)[0][2], (1, 1, 5))

    def test_word_taken_ahead_of_its_showing(self):
        # Used in beat 3, shown in beat 8; the set is written in beat 4.
        design = design_with((OUT, (2, 7)))
        self.assertEqual(shown(design, (("set", 1, 9), ("out", 1))), (2,))
        self.assertEqual(run(design, (("out", 1),), START, NEXT)[2], 8)

    def test_more_than_1000(self):
        full = (REGISTERS, CELLS, (7,) * 1000)
        self.assertEqual(run(DESIGN, (("out", 1),) * 3, full, NEXT)[0][2], (7,) * 1000 + (2,) * 3)


class JumpTest(unittest.TestCase):
    """Step 6: what is decided, and what is thrown away."""

    def test_what_is_laid_on_behind(self):
        program = (("zero", 0, 4), ("set", 0, 1), ("set", 1, 1), ("set", 2, 1), ("out", 3))
        self.assertEqual(laid_on(DESIGN, program, START, NEXT), (
            (0, 0, False), (1, 1, True), (2, 2, True), (3, 4, False)))
        self.assertEqual(run(DESIGN, program, START, NEXT), ((REGISTERS, CELLS, (5,)), 2, 6))
        self.assertEqual(run(DESIGN, program, START, ("goal",)), ((REGISTERS, CELLS, (5,)), 2, 4))

    def test_place_0(self):
        """A jump that is decided in the beat of its laying on loses nothing."""
        program = (("go", 2), ("out", 1), ("zero", 0, 4), ("out", 1), ("zero", 1, 3), ("out", 3))
        self.assertEqual(laid_on(EARLIEST, program, START, NEXT), (
            (0, 0, False), (1, 2, False), (2, 4, False), (3, 5, False)))
        self.assertEqual(run(EARLIEST, program, START, ("row", (0, 60)))[1:], (4, 4))

    def test_place_7(self):
        program = (("go", 9),) + (IDLE,) * 8 + (("out", 1),)
        self.assertEqual(laid_on(LATEST, program, START, NEXT), ((0, 0, False),) + tuple(
            (beat, beat, True) for beat in range(1, 8)) + ((8, 9, False),))

    def test_effects_ahead_of_the_decision(self):
        """What a thrown away instruction did up to this beat stays, and it is not counted as done."""
        for decided, told in ((2, ()), (3, (2,)), (7, (2,))):
            design = design_with((GO, (decided,)))
            self.assertEqual(run(design, (("go", 2), ("out", 1)), START, NEXT),
                             ((REGISTERS, CELLS, told), 1, decided + 1))
        for same in (True, False):
            for decided, told in ((4, 2), (5, 9), (6, 9)):
                design = design_with((GO, (decided,)), same=same)
                self.assertEqual(registers(design, (("go", 2), ("set", 1, 9)))[1], told)
            for decided, told in ((3, 7), (4, 5), (5, 5)):
                design = design_with((GO, (decided,)), same=same)
                self.assertEqual(cells(design, (("go", 2), ("store", 3, 0, 0)))[0], told)

    def test_thrown_away_in_the_beat_decides_nothing(self):
        # The zero of beat 0 and the go of beat 1 are both decided in beat 2.
        program = (("zero", 0, 3), ("go", 4), ("out", 1), ("out", 3), ("out", 4))
        self.assertEqual(laid_on(DESIGN, program, START, NEXT), (
            (0, 0, False), (1, 1, True), (2, 2, True), (3, 3, False), (4, 4, False)))
        # If the zero was guessed right, the go decides in the same beat.
        program = with_part(program, 0, ("zero", 1, 3))
        self.assertEqual(laid_on(DESIGN, program, START, NEXT), (
            (0, 0, False), (1, 1, False), (2, 2, True), (3, 4, False)))

    def test_decided_later_than_a_jump_behind(self):
        # The go of beat 1 is decided in beat 2, the zero of beat 0 in beat 4.
        design = design_with((ZERO, (2, 4)))
        program = (("zero", 0, 5), ("go", 3), ("out", 1), ("out", 3), ("out", 4), ("out", 5))
        self.assertEqual(laid_on(design, program, START, NEXT), (
            (0, 0, False), (1, 1, True), (2, 2, True), (3, 3, True), (4, 4, True), (5, 5, False)))
        self.assertEqual(shown(design, program), (65535,))

    def test_register_is_taken_at_its_place_of_use(self):
        # Used in beat 3, decided in beat 5; the set is written in beat 4.
        design = design_with((ZERO, (2, 4)))
        self.assertEqual(run(design, (("set", 0, 9), ("zero", 0, 3), ("out", 1)), START, ("goal",))[1], 2)
        self.assertEqual(run(design, apart(("set", 0, 9), 3, ("zero", 0, 5)) + (("out", 1),), START, ("goal",))[1], 5)

    def test_guess_is_compared_by_number(self):
        self.assertEqual(run(DESIGN, (("zero", 1, 1), IDLE), START, ("goal",))[1:], (2, 3))
        self.assertEqual(beats_laid(DESIGN, (("zero", 1, 1), IDLE), ("goal",)), [0, 1])

    def test_loop(self):
        # Register 4 holds 6 and is counted down; the last three rounds' words are waited for by idle ones.
        loop = (("sub", 4, 4, 6), IDLE, IDLE, IDLE, ("out", 4), ("zero", 4, 7), ("go", 0))
        state = (with_part(REGISTERS, 6, 1), CELLS, ())
        self.assertEqual(run(DESIGN, loop, state, ("row", (6, 0))), (
            (with_part(with_part(REGISTERS, 6, 1), 4, 0), CELLS, (5, 4, 3, 2, 1, 0)), 41, 43))


class WaitTest(unittest.TestCase):
    """Point 13: which instructions wait for which."""

    def beats(self, wait, *program, rows=()):
        waits = wait if isinstance(wait[0], tuple) else (wait,)
        return beats_laid(design_with(*rows, waits=waits), program)

    def test_value(self):
        wait = ("value", "set", "sum", "a", 1)
        self.assertEqual(self.beats(wait, ("set", 1, 9), ("add", 2, 1, 3)), [0, 2])
        self.assertEqual(self.beats(wait, ("set", 1, 9), ("sub", 2, 3, 1)), [0, 2])
        self.assertEqual(self.beats(wait, ("set", 1, 9), ("add", 1, 3, 3)), [0, 1])
        self.assertEqual(self.beats(wait, ("set", 1, 9), ("mul", 2, 1, 1)), [0, 1])
        self.assertEqual(self.beats(wait, ("load", 1, 1, 1), ("add", 2, 1, 3)), [0, 1])
        self.assertEqual(self.beats(wait, ("set", 1, 9), IDLE, ("add", 2, 1, 3)), [0, 1, 2])

    def test_value_of_the_last_writer_only(self):
        wait = ("value", "load", "sum", "a", 2)
        self.assertEqual(self.beats(wait, ("load", 1, 0, 0), IDLE, ("add", 2, 1, 1)), [0, 1, 3])
        self.assertEqual(self.beats(wait, ("load", 1, 0, 0), ("set", 1, 1), ("add", 2, 1, 1)), [0, 1, 2])
        self.assertEqual(self.beats(wait, ("load", 1, 0, 0), ("set", 3, 1), ("add", 2, 1, 1)), [0, 1, 3])
        # One of the two registers that are used has its last writer there.
        self.assertEqual(self.beats(wait, ("load", 1, 0, 0), ("set", 3, 1), ("add", 2, 3, 1)), [0, 1, 3])

    def test_value_by_role(self):
        for role, program in (("a", (("set", 1, 9), ("store", 3, 1, 0))), ("b", (("set", 1, 9), ("store", 1, 3, 0)))):
            other = "b" if role == "a" else "a"
            self.assertEqual(self.beats(("value", "set", "store", role, 1), *program), [0, 2])
            self.assertEqual(self.beats(("value", "set", "store", other, 1), *program), [0, 1])

    def test_value_of_every_kind(self):
        earlier = {"set": ("set", 1, 9), "sum": ("less", 1, 3, 3), "mul": ("mul", 1, 3, 3), "load": ("load", 1, 3, 3)}
        later = {"sum": ("and", 2, 3, 1), "mul": ("mul", 2, 1, 3), "load": ("load", 2, 1, 3), "zero": ("zero", 1, 2),
                 "store": ("store", 3, 1, 0), "out": ("out", 1)}
        for kind, one in earlier.items():
            for use, other in later.items():
                self.assertEqual(self.beats(("value", kind, use, "a", 1), one, other), [0, 2])

    def test_order(self):
        wait = ("order", "load", "set", 1)
        self.assertEqual(self.beats(wait, ("load", 1, 0, 0), ("set", 1, 9)), [0, 2])
        self.assertEqual(self.beats(wait, ("load", 1, 0, 0), ("set", 2, 9)), [0, 1])
        self.assertEqual(self.beats(wait, ("load", 1, 0, 0), ("add", 1, 2, 2)), [0, 1])
        self.assertEqual(self.beats(("order", "load", "set", 2), ("load", 1, 0, 0), ("sub", 1, 3, 3), ("set", 1, 9)),
                         [0, 1, 3])
        self.assertEqual(self.beats(("order", "sum", "sum", 1), ("and", 0, 1, 1), ("less", 0, 2, 2)), [0, 2])

    def test_memory_whatever_the_cell(self):
        self.assertEqual(self.beats(("memory", "store", "load", 1), ("store", 1, 0, 0), ("load", 2, 0, 5)), [0, 2])
        self.assertEqual(self.beats(("memory", "load", "store", 1), ("load", 2, 0, 5), ("store", 1, 0, 0)), [0, 2])
        self.assertEqual(self.beats(("memory", "load", "store", 1), ("store", 1, 0, 0), ("load", 2, 0, 5)), [0, 1])
        self.assertEqual(self.beats(("memory", "store", "load", 1), ("store", 1, 0, 0), ("store", 2, 0, 5)), [0, 1])

    def test_wrong(self):
        for jump in (("zero", 1, 1), ("go", 1)):
            for kind, one in (("set", ("set", 1, 9)), ("sum", ("sub", 1, 3, 3)), ("mul", ("mul", 1, 3, 3)),
                              ("load", ("load", 1, 3, 3)), ("store", ("store", 1, 3, 3)), ("out", ("out", 1))):
                wait = ("wrong", jump[0], kind, 1)
                self.assertEqual(self.beats(wait, jump, one), [0, 2])
                self.assertEqual(self.beats(wait, jump, IDLE), [0, 1])
                self.assertEqual(self.beats(wait, IDLE, one), [0, 1])
            # Though the jump is decided in beat 2 at the latest.
            self.assertEqual(self.beats(("wrong", jump[0], "out", 7), jump, *(IDLE,) * 6, ("out", 1)),
                             [0, 1, 2, 3, 4, 5, 6, 8])

    def test_beats_are_counted_again_each_beat(self):
        waits = tuple(("value", "set", "out", "a", d) for d in range(1, 8))
        self.assertEqual(self.beats(waits, ("set", 1, 9), ("out", 1)), [0, 8])
        self.assertEqual(self.beats(waits[1:], ("set", 1, 9), ("out", 1)), [0, 1])
        self.assertEqual(self.beats(waits[:1] + waits[2:], ("set", 1, 9), ("out", 1)), [0, 2])
        # The idle one is laid on in beat 1, the out would be two beats behind the set.
        self.assertEqual(self.beats(waits[1:3], ("set", 1, 9), IDLE, ("out", 1)), [0, 1, 4])

    def test_beats_of_waiting_count(self):
        # The first out waits for the load, so the second one is three beats behind the set.
        waits = (("value", "load", "out", "a", 1), ("value", "set", "zero", "a", 3))
        self.assertEqual(self.beats(waits, ("set", 1, 9), ("load", 2, 0, 0), ("out", 2), ("zero", 1, 4)), [0, 1, 3, 4])
        waits = (("value", "load", "out", "a", 1), ("value", "set", "zero", "a", 4))
        self.assertEqual(self.beats(waits, ("set", 1, 9), ("load", 2, 0, 0), ("out", 2), ("zero", 1, 4)), [0, 1, 3, 5])

    def test_seven_beats(self):
        for rule in (("value", "set", "out", "a", 7), ("wrong", "go", "out", 7)):
            first = ("set", 1, 9) if rule[0] == "value" else ("go", 1)
            program = (first,) + (IDLE,) * 6 + (("out", 1),)
            self.assertEqual(self.beats(rule, *program)[-1], 8)
            self.assertEqual(self.beats(rule, *program[:-1], IDLE, ("out", 1))[-1], 8)

    def test_not_for_what_was_thrown_away(self):
        # The set of beat 1 is thrown away in beat 1, so the out of beat 2 does not wait.
        waits = (("value", "set", "out", "a", 1), ("value", "set", "out", "a", 2))
        program = (("go", 2), ("set", 1, 9), ("out", 1))
        self.assertEqual(beats_laid(design_with(waits=waits), program), [0, 1, 2])
        # The writer ahead of it is then the last one.
        waits = (("value", "set", "out", "a", 3),)
        program = (("set", 1, 8), ("go", 3), ("set", 1, 9), ("out", 1))
        self.assertEqual(beats_laid(design_with(waits=waits), program), [0, 1, 2, 4])
        # The set is still on the belt while the zero is not decided.
        waits = (("order", "set", "load", 1),)
        program = (("zero", 0, 3), ("set", 1, 9), ("load", 1, 0, 0), ("out", 1))
        self.assertEqual(laid_on(design_with(waits=waits), program, START, NEXT), (
            (0, 0, False), (1, 1, True), (3, 3, False)))

    def test_thrown_away_while_something_waits(self):
        # The out waits in beats 2 and 3; in beat 3 all behind the zero of beat 0 is thrown away.
        waits = (("value", "set", "out", "a", 1), ("value", "set", "out", "a", 2))
        design = design_with((ZERO, (2, 3)), waits=waits)
        program = (("zero", 0, 3), ("set", 1, 9), ("out", 1), ("out", 3))
        self.assertEqual(laid_on(design, program, START, NEXT), ((0, 0, False), (1, 1, True), (4, 3, False)))

    def test_waiting_puts_off_what_comes_behind(self):
        design = design_with(waits=(("value", "load", "out", "a", 1),))
        program = (("load", 1, 0, 0), ("out", 1), IDLE, ("out", 3))
        self.assertEqual(beats_laid(design, program), [0, 2, 3, 4])
        self.assertEqual(run(design, program, START, NEXT)[2], 7)
        self.assertEqual(on_belt(design, program, START, NEXT, 1), ((1, 0),))
        self.assertEqual(on_belt(design, program, START, NEXT, 2), ((2, 0), (0, 1)))
