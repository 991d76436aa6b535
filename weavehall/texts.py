"""Texts: cloths written in lines of signs, and read again."""

from weavehall.cloths import is_cloth
from weavehall.errors import BadText

SIGNS = ("-", "#")


def shown(cloth):
    return "".join([shown_line(row) for row in cloth])


def shown_line(row):
    return "".join([SIGNS[bit] for bit in row]) + "\n"


def read(text):
    # The error's words leave the thing itself out: showing a thing of any kind may fail.
    if not isinstance(text, str) or not text.endswith("\n"):
        raise BadText("a written cloth is a text of lines, each ended by a line end")
    # Split at line feeds alone: `splitlines` would take other signs for line ends too.
    cloth = tuple([bits_of(line) for line in text.split("\n")[:-1]])
    if not is_cloth(cloth):
        raise BadText("a written cloth has 1 to 16 lines of 1 to 16 signs, # or -, all alike long")
    return cloth


def bits_of(line):
    # Another sign becomes a number that is no bit, so that the whole is no cloth.
    return tuple([SIGNS.index(sign) if sign in SIGNS else len(SIGNS) for sign in line])
