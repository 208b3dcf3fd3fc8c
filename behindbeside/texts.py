"""Terms written as texts, and read back."""

from behindbeside.errors import BadText
from behindbeside.terms import BEHIND, refuse_no_term

MOST_DEEP = 20
FIGURES = "0123456789"
WORDS = {">": "behind", "|": "beside"}


def term_text(term):
    """Return the text of a term."""
    refuse_no_term(term)
    return part_text(term)


def read_term(text):
    """Return the term that a text tells."""
    if not isinstance(text, str):
        raise BadText(None)
    term, end = read_part(text, 0, 0)
    if end < len(text):
        raise BadText(end)
    refuse_no_term(term)
    return term


def part_text(term):
    """Return the text of a part of a term."""
    if isinstance(term, int):
        return str(term)
    parts = [part_text(part) for part in term[1:]]
    inner = " > ".join(parts) if term[0] == BEHIND else " | ".join(parts)
    return f"({inner})"


def read_part(text, place, depth):
    """Return the part that begins at a place of a text, inside so many brackets, and the place behind it."""
    if char_at(text, place) == "(" and depth < MOST_DEEP:
        return read_bracket(text, place + 1, depth + 1)
    if not has_figure(text, place):
        raise BadText(place)
    end = place + 1
    # Behind a 0 no figure can stand: it would be a needless 0 in front.
    if text[place] != "0" and has_figure(text, end):
        end += 1
    return int(text[place:end]), end


def read_bracket(text, place, depth):
    """Return the tuple whose first part begins at a place of a text, inside so many brackets, and the place behind."""
    part, place = read_part(text, place, depth)
    parts = [part]
    # The sign between the first two parts is the one between any two.
    at = place_behind(text, place, " ")
    sign = char_at(text, at)
    if sign not in WORDS:
        raise BadText(at)
    while char_at(text, place) != ")":
        place = place_behind(text, place, f" {sign} ")
        part, place = read_part(text, place, depth)
        parts.append(part)
    return (WORDS[sign], *parts), place + 1


def place_behind(text, place, wanted):
    """Return the place behind some wanted characters; raise BadText at the first one that does not stand there."""
    for sign in wanted:
        if char_at(text, place) != sign:
            raise BadText(place)
        place += 1
    return place


def char_at(text, place):
    """Return the character at a place of a text, or an empty string behind the end."""
    return text[place:place + 1]


def has_figure(text, place):
    """Tell whether a figure stands at a place of a text."""
    return place < len(text) and text[place] in FIGURES
