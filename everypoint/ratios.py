"""Ratios, the exact fractions (n, d), and the words that stand for them in texts."""

from math import gcd

from everypoint.errors import TextFault, ZeroDenominator

MOST_DIGITS = 800
MOST_NAME = 12
LETTERS = "abcdefghijklmnopqrstuvwxyz"
DIGITS = "0123456789"


def is_integer(value):
    """Python counts True and False as integers; this program does not."""
    return isinstance(value, int) and not isinstance(value, bool)


def ratio(top, bottom=1):
    """Returns the ratio top / bottom of two integers."""
    if bottom == 0:
        raise ZeroDenominator()
    shared = gcd(top, bottom)
    if bottom < 0:
        shared = -shared
    return (top // shared, bottom // shared)


def is_ratio(value):
    """True if the value is a tuple (n, d) in lowest terms with d above zero."""
    if not isinstance(value, tuple) or len(value) != 2:
        return False
    top, bottom = value
    if not is_integer(top) or not is_integer(bottom):
        return False
    return bottom >= 1 and gcd(top, bottom) == 1


def as_ratio(number):
    """Returns the ratio that an integer or a ratio stands for."""
    if isinstance(number, int):
        return (number, 1)
    return number


def add(x, y):
    """Returns x + y."""
    return ratio(x[0] * y[1] + y[0] * x[1], x[1] * y[1])


def subtract(x, y):
    """Returns x - y."""
    return ratio(x[0] * y[1] - y[0] * x[1], x[1] * y[1])


def multiply(x, y):
    """Returns x * y."""
    return ratio(x[0] * y[0], x[1] * y[1])


def divide(x, y):
    """Returns x / y."""
    return ratio(x[0] * y[1], x[1] * y[0])


def negate(x):
    """Returns -x."""
    return (-x[0], x[1])


def integer_sign(number):
    """Returns -1, 0 or 1 for an integer below, at or above zero."""
    if number > 0:
        return 1
    if number < 0:
        return -1
    return 0


def sign(x):
    """Returns -1, 0 or 1 for a ratio below, at or above zero."""
    return integer_sign(x[0])


def compare(x, y):
    """Returns -1, 0 or 1 as x is less than, equal to or greater than y."""
    return integer_sign(x[0] * y[1] - y[0] * x[1])


def middle(x, y):
    """Returns (x + y) / 2."""
    return ratio(x[0] * y[1] + y[0] * x[1], 2 * x[1] * y[1])


def key_shift(values):
    """Returns a shift for which the sort keys of the ratios of a list stand in their order."""
    # Two unlike ratios with denominators below 2 ** b differ by more than 1 / 2 ** (2 * b).
    # So, multiplied by 2 ** (2 * b), they differ by more than 1, and their floors differ, too.
    return 2 * max([x[1].bit_length() for x in values], default=0)


def sort_key(x, shift):
    """Returns an integer that stands for the ratio among those for which the shift was made."""
    return (x[0] << shift) // x[1]


def without_repeats(ordered):
    """Returns a list without the members that equal the one before them."""
    return [x for k, x in enumerate(ordered) if k == 0 or x != ordered[k - 1]]


def sort_ratios(values):
    """Returns the ratios of a list, ascending by value, without duplicates."""
    shift = key_shift(values)
    return without_repeats(sorted(values, key=lambda x: sort_key(x, shift)))


def ratio_text(x):
    """Returns the word of a ratio."""
    top, bottom = x
    if bottom == 1:
        return str(top)
    return f"{top}/{bottom}"


def is_integer_word(text):
    """True if the text is the decimal form of an integer of at most 800 digits."""
    digits = text[1:] if text.startswith("-") else text
    if not digits or len(digits) > MOST_DIGITS:
        return False
    # Python's own tests for digits would take those of other scripts, too.
    if not all([character in DIGITS for character in digits]):
        return False
    return digits[0] != "0" or text == "0"


def read_ratio(text):
    """Returns the ratio whose word the text is, or None if it is no such word."""
    if is_integer_word(text):
        return (int(text), 1)
    top, _, bottom = text.partition("/")
    if not is_integer_word(top) or not is_integer_word(bottom):
        return None
    x = (int(top), int(bottom))
    if x[1] == 1 or not is_ratio(x):
        return None
    return x


def parse_ratio(text):
    """Returns the ratio whose word the text is."""
    x = read_ratio(text)
    if x is None:
        raise TextFault(1, 1)
    return x


def is_name(value):
    """True if the value is a text of 1 to 12 letters a to z and digits that begins with a letter."""
    if not isinstance(value, str) or not 1 <= len(value) <= MOST_NAME:
        return False
    return value[0] in LETTERS and all([character in LETTERS + DIGITS for character in value])
