"""Words, the integers from 0 to 65535, and what is computed of them."""

from stagebelt.checks import is_whole, is_within
from stagebelt.errors import BadNumber, BadWord

WORDS = 65536


def word(number):
    """The rest of any integer by 65536."""
    if not is_whole(number):
        raise BadNumber("no integer")
    return number % WORDS


def is_word(value):
    """Whether a value is a word."""
    return is_within(value, 0, WORDS - 1)


def are_words(value, least, most):
    """Whether a value is a tuple of words, at least and at most so many."""
    if not isinstance(value, tuple) or not least <= len(value) <= most:
        return False
    return all(is_word(item) for item in value)


def check_words(one, other):
    """Raise BadWord if one of two values is no word."""
    if not is_word(one) or not is_word(other):
        raise BadWord("no integer from 0 to 65535")


def added(one, other):
    """The word of the sum."""
    check_words(one, other)
    return word(one + other)


def less_by(one, other):
    """The word of one less other."""
    check_words(one, other)
    return word(one - other)


def times(one, other):
    """The word of the product."""
    check_words(one, other)
    return word(one * other)


def both_bits(one, other):
    """The bits that both words have."""
    check_words(one, other)
    return one & other


def is_less(one, other):
    """The word 1 if one is less than other, otherwise 0."""
    check_words(one, other)
    return 1 if one < other else 0


COMPUTED = {"add": added, "sub": less_by, "and": both_bits, "less": is_less, "mul": times}


def computed(name, one, other):
    """The word that the instructions of this name make of the words of their two registers."""
    function = COMPUTED[name]
    return function(one, other)
