"""Texts: numbers, pictures, beliefs and deeds as words, there and back."""

from moonfall.deeds import KINDS, Deed
from moonfall.landererrors import BadDeed
from moonfall.texterrors import BadText

FIGURES = "0123456789"
MOST_FIGURES = 7
NOTHING = "-"
# What a deed tells, word by word.
DEED_WORDS = ("kind", "fuel", "aim", "slips")


def number_of(word):
    """The integer of a word of few figures, none needless; None if it is none."""
    figures = word[1:] if word.startswith("-") else word
    if not 1 <= len(figures) <= MOST_FIGURES or not all([figure in FIGURES for figure in figures]):
        return None
    if figures[0] == "0" and word != "0":
        return None
    return int(word)


def rows_text(rows):
    """Rows of numbers as a word."""
    return ";".join([",".join([str(number) for number in row]) for row in rows]) if rows else NOTHING


def rows_of(word, many):
    """The tuple of the rows, of so many numbers each, of a word; None if it is none, or has no row."""
    rows = []
    for part in word.split(";"):
        numbers = [number_of(each) for each in part.split(",")]
        if len(numbers) != many or None in numbers:
            return None
        rows.append(tuple(numbers))
    return tuple(rows)


def word_at(words, at):
    """A word by its place; one that is lacking is empty, and so it is wrong everywhere."""
    return words[at] if at < len(words) else ""


def picture_text(picture):
    """A picture as a word."""
    return rows_text(picture)


def picture_of(word):
    """The picture of a word, of any triples; None if it is none."""
    return () if word == NOTHING else rows_of(word, 3)


def belief_text(belief):
    """A belief as a word."""
    return rows_text(belief)


def belief_of(word):
    """The belief of a word, of ascending unlike triples; None if it is none."""
    belief = rows_of(word, 3)
    return belief if belief is not None and _are_ascending(belief) else None


def _are_ascending(rows):
    return all([row < rows[at + 1] for at, row in enumerate(rows[:-1])])


def deed_text(deed):
    """A deed as a line: its kind, its fuel, what it aims at, its slips."""
    return f"{deed.kind} {deed.fuel} {_aim_text(deed)} {rows_text(deed.slips)}"


def _aim_text(deed):
    if deed.aim is None:
        return NOTHING
    return rows_text((deed.aim,)) if deed.kind == "step" else str(deed.aim)


def read_deed(text, line):
    """The deed of a line; BadText, with the line's number, for the first wrong word."""
    words = text.split(" ")
    if words[0] not in KINDS:
        raise BadText(line, 0)
    if len(words) > len(DEED_WORDS):
        raise BadText(line, len(DEED_WORDS))
    kind, fuel, aim, slips = [word_at(words, at) for at in range(len(DEED_WORDS))]
    try:
        return Deed(kind, number_of(fuel), _aim_of(kind, aim), _slips_of(slips))
    except BadDeed as e:
        raise BadText(line, DEED_WORDS.index(e.word))


def _aim_of(kind, word):
    """What a word tells a deed of a kind to aim at; something that is no such thing if it is wrong."""
    if kind == "step":
        pairs = rows_of(word, 2)
        return pairs[0] if pairs is not None and len(pairs) == 1 else None
    if kind in ("turn", "look"):
        return number_of(word)
    return None if word == NOTHING else word


def _slips_of(word):
    slips = rows_of(word, 2)
    return slips if slips is not None and _are_ascending(slips) else None


def write_deeds(deeds):
    """Deeds as lines."""
    return "\n".join([deed_text(deed) for deed in deeds])


def read_deeds(text):
    """The tuple of the deeds of some lines."""
    if not text:
        return ()
    return tuple([read_deed(row, line) for line, row in enumerate(text.split("\n"))])
