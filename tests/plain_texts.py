"""Texts read plainly, by patterns that match just what may be written; None where a text writes no such thing."""

import re

SOME = "(?=[a-h])a?b?c?d?e?f?g?h?"
SET = f"(?:-|{SOME})"
HANGING = f"{SET}>{SET}"
NUMBER = "(?:0|-?[1-9][0-9]{0,29})"
ROW = f"{NUMBER}(?:,{NUMBER})*"


def matches(pattern, text):
    return re.fullmatch(pattern, text) is not None


def rises(things):
    return all(one < other for one, other in zip(things, things[1:]))


def lies(some, head):
    return set(some) <= set(head)


def set_of(head, text):
    some = text.replace("-", "")
    return some if matches(SET, text) and lies(some, head) else None


def hanging_of(head, text):
    if not matches(HANGING, text):
        return None
    sides = tuple(text.replace("-", "").split(">"))
    return sides if lies("".join(sides), head) else None


def row_of(head, text):
    row = tuple(map(int, text.split(","))) if matches(ROW, text) else ()
    return row if len(row) == len(head) else None


def split_of(head, text):
    if not matches(f"{SOME}(?:/{SOME})*", text):
        return None
    sets = tuple(text.split("/"))
    return sets if {*"".join(sets)} == {*head} and rises(sets) and len(sets) <= 64 else None


def book_of(text):
    return headed(text, HANGING, hanging_of, 12)


def table_of(text):
    return headed(text, ROW, row_of, 80)


def headed(text, pattern, part_of, most):
    """A head, a colon and parts, each with a blank ahead."""
    if not matches(f"{SOME}:(?: {pattern})*", text):
        return None
    head, colon, rest = text.partition(":")
    parts = tuple(part_of(head, word) for word in rest.split())
    return (head, parts) if None not in parts and rises(parts) and len(parts) <= most else None
