"""Instructions that were laid on a belt, and which ones wait for them."""

from stagebelt.programs import kind_of, part_of, used_by, written_by


class Laid:
    """An instruction that was laid on in a beat; the number is its own in a program, if it is of one."""

    def __init__(self, instruction, beat, number=None):
        self.instruction = instruction
        self.beat = beat
        self.number = number
        self.kind = kind_of(instruction)
        self.target = written_by(instruction)
        self.goal = part_of(instruction, "goal")
        self.guess = None
        self.guessed_right = True
        self.thrown_away = False
        self.registers = ()
        self.words = {"a": None, "b": None}
        self.result = None


def last_writer(earlier, target):
    """The last one of those laid on earlier that writes a register, None if none does."""
    for item in reversed(earlier):
        if item.target == target:
            return item
    return None


def waited_for(earlier, instruction, beat):
    """Those entries with which an instruction waits in a beat, if they are among the waits.

    earlier has what was laid on ahead and was not thrown away, in order.
    """
    kind = kind_of(instruction)
    target = written_by(instruction)
    found = []
    for item in earlier:
        found.append(("memory", item.kind, kind, beat - item.beat))
        found.append(("wrong", item.kind, kind, beat - item.beat))
        if target is not None and item.target == target:
            found.append(("order", item.kind, kind, beat - item.beat))
    for role, used in used_by(instruction):
        writer = last_writer(earlier, used)
        if writer is not None:
            found.append(("value", writer.kind, kind, role, beat - writer.beat))
    return found


def has_to_wait(waits, earlier, instruction, beat):
    """Whether an instruction waits in a beat; waits has the waits of a design as its keys."""
    return any(entry in waits for entry in waited_for(earlier, instruction, beat))
