"""Checks of integers and strings, for all modules."""

from stagebelt.errors import BadNumber, NotText


def is_whole(value):
    """Whether a value is an integer."""
    # For Python, True and False are integers; here they are none.
    return isinstance(value, int) and not isinstance(value, bool)


def is_within(value, low, high):
    """Whether a value is an integer from low to high."""
    return is_whole(value) and low <= value <= high


def check_number(value, low, high):
    """Raise BadNumber for any value that is no integer from low to high."""
    if not is_within(value, low, high):
        raise BadNumber(f"no integer from {low} to {high}")


def check_text(text):
    """Raise NotText for any value that is no string."""
    if not isinstance(text, str):
        raise NotText("no string")
