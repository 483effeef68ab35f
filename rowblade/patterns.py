"""Patterns: read from their text, written as it, and how little they may fit.

A pattern is told as a tuple (front, items, back), items being a list of tuples (signs, others, many).
"""

from rowblade.errors import NoPattern
from rowblade.signs import SIGNS, made_of

MOST_ITEMS = 8
MOST_SIGNS = 12
NEVER_PLAIN = "^$.[]*+?/"
NEVER_IN_A_SET = "]^/"
ONCE = "1"
HOW_MANY = "*+?"


def may_stand_plain(sign):
    return sign in SIGNS and sign not in NEVER_PLAIN


def pattern(text):
    if not isinstance(text, str):
        raise NoPattern("a pattern is a text")
    if not made_of(text, SIGNS):
        raise NoPattern("something in the pattern is no sign")
    front = text.startswith("^")
    body = text[1:] if front else text
    # A $ at the end is never one of a set's signs, since a set ends with its bracket.
    back = body.endswith("$")
    items = items_of(body[:-1] if back else body)
    if len(items) > MOST_ITEMS:
        raise NoPattern("the pattern has too many items")
    return (front, items, back)


def items_of(body):
    items = []
    place = 0
    while place < len(body):
        behind = place_behind_core(body, place)
        many = many_at(body, behind)
        items.append(item_of(body[place:behind], many))
        place = behind if many == ONCE else behind + 1
    return items


def place_behind_core(body, place):
    if body[place] != "[":
        return place + 1
    bracket = body.find("]", place)
    if bracket == -1:
        raise NoPattern("a set isn't closed")
    return bracket + 1


def many_at(body, place):
    if place < len(body) and body[place] in HOW_MANY:
        return body[place]
    return ONCE


def item_of(core, many):
    if core == ".":
        return ("", True, many)
    if core.startswith("["):
        return set_item(core[1:-1], many)
    if not may_stand_plain(core):
        raise NoPattern(f"{core!r} stands at a wrong place")
    return (core, False, many)


def set_item(inside, many):
    others = inside.startswith("^")
    signs = inside[1:] if others else inside
    if signs == "" or len(signs) > MOST_SIGNS:
        raise NoPattern("a set has one to twelve signs")
    if any([sign in NEVER_IN_A_SET for sign in signs]):
        raise NoPattern("a set has a sign that none may have")
    if len(set(signs)) != len(signs):
        raise NoPattern("a set has a sign twice")
    if is_written_plain(signs, others):
        raise NoPattern("a sign that may stand plain needs no set")
    return (signs, others, many)


def is_written_plain(signs, others):
    return not others and len(signs) == 1 and may_stand_plain(signs)


def written(one):
    parts = ["^" if one[0] else ""]
    for signs, others, many in one[1]:
        parts.append(written_core(signs, others))
        parts.append("" if many == ONCE else many)
    parts.append("$" if one[2] else "")
    return "".join(parts)


def written_core(signs, others):
    if signs == "":
        return "."
    if others:
        return f"[^{signs}]"
    if is_written_plain(signs, others):
        return signs
    return f"[{signs}]"


def may_be_empty(one):
    return least_length(one) == 0


def least_length(one):
    return len([item for item in one[1] if not may_be_left_out(item)])


def may_be_left_out(item):
    return item[2] in ("*", "?")


def may_come_again(item):
    return item[2] in ("*", "+")
