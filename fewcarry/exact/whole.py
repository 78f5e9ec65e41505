"""Whole numbers in texts."""

from fewcarry.exact.errors import BadNumber

_MOST_DIGITS = 2000


def is_digits(text):
    """Whether the text consists of digits from 0 to 9, and of at least one."""
    # Other scripts have digits, too, and int would read them.
    return text.isascii() and text.isdigit()


def read_whole(text):
    """The whole number whose decimal digits the text has, with a minus in front if it is below zero."""
    digits = text.removeprefix("-")
    if not is_digits(digits) or len(digits) > _MOST_DIGITS:
        raise BadNumber(text)
    number = int(text)
    # What is left over, such as 03 and -0, is read but written otherwise.
    if str(number) != text:
        raise BadNumber(text)
    return number
