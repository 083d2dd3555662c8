"""Orders of the instructions of a block, and which of them keep all that must be kept."""

from stagebelt.checks import is_whole
from stagebelt.errors import BadOrder
from stagebelt.programs import kind_of, used_by, written_by

# Kinds of which two stay in their order whatever their registers are.
STAYING = (("store", "load"), ("load", "store"), ("store", "store"), ("out", "out"))


def is_order(value, many):
    """Whether a value is a tuple of the places of a block of so many instructions, each once."""
    if not isinstance(value, tuple) or not all(is_whole(item) for item in value):
        return False
    return sorted(value) == list(range(many))


def check_order(order, block):
    """Raise BadOrder for any value that is no order of a block."""
    if not is_order(order, len(block)):
        raise BadOrder("no tuple of the places of the block, each once")


def writes_what_meets(one, other):
    """Whether an instruction writes a register that another one writes or uses."""
    target = written_by(one)
    if target is None:
        return False
    return target == written_by(other) or target in [used for _, used in used_by(other)]


def have_to_stay(one, other):
    """Whether two instructions have to stay in their order."""
    if (kind_of(one), kind_of(other)) in STAYING:
        return True
    return writes_what_meets(one, other) or writes_what_meets(other, one)


def kept_pairs(block):
    """The list of the pairs of places, the lesser one first, that have to stay in their order."""
    places = range(len(block))
    return [(one, other) for other in places for one in range(other) if have_to_stay(block[one], block[other])]


def keeps(pairs, order):
    """Whether an order has the first place of each of some pairs ahead of the second."""
    return all(order.index(one) < order.index(other) for one, other in pairs)
