"""How numbers of at least 0 are written in texts.

Python refuses to turn very long integers into strings and back. Numbers that
the package returns may become that long, so they are turned block by block.
"""

from wholeshares.numeric import is_number, lowest

BLOCK_DIGITS = 60
BLOCK = 10 ** 60


def _int_text(integer):
    blocks = []
    while integer >= BLOCK:
        integer, rest = divmod(integer, BLOCK)
        blocks.append(str(rest).zfill(BLOCK_DIGITS))
    blocks.append(str(integer))
    return "".join(blocks[::-1])


def _read_int(digits):
    start = len(digits) % BLOCK_DIGITS
    integer = int("0" + digits[:start])
    for at in range(start, len(digits), BLOCK_DIGITS):
        integer = integer * BLOCK + int(digits[at:at + BLOCK_DIGITS])
    return integer


def is_digits(text):
    """Return True if the text consists of the digits 0 to 9."""
    # Python takes some other characters for digits, too.
    return text.isascii() and text.isdigit()


def number_text(pair):
    """Return the text of a pair in lowest terms."""
    if pair[1] == 1:
        return _int_text(pair[0])
    return f"{_int_text(pair[0])}/{_int_text(pair[1])}"


def read_number(text):
    """Return the pair with exactly this text, or None."""
    parts = text.split("/")
    if len(parts) > 2 or not all([is_digits(part) for part in parts]):
        return None
    number = _read_int(parts[0])
    if len(parts) == 2:
        number = (number, _read_int(parts[1]))
    if not is_number(number):
        return None
    pair = lowest(number)
    # A number has one text only: no leading zeros, nothing that can be reduced.
    return pair if number_text(pair) == text else None
