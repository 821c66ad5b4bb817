"""Journals: rooms that have done the deeds of a text."""

from wishshelves.errors import BadLine, BadText
from wishshelves.forms import FIGURES_OF_A_NUMBER, deed_in, do_deed
from wishshelves.names import is_decimal
from wishshelves.room import Room
from wishshelves.texts import read_fields


def read_journal(text):
    """Return a room that has done the deeds of a journal, one behind the other."""
    if not isinstance(text, str):
        raise BadLine(-1)
    lines = text.split("\n")
    if "deeds" not in lines:
        raise BadLine(len(lines))
    start = lines.index("deeds")
    fields = fields_ahead("\n".join(lines[:start]))
    rows = rows_of_deeds(lines, start + 1)
    room = Room(fields)
    for is_batch, deeds in rows:
        if is_batch:
            do_batch(room, deeds)
        else:
            do_all(room, deeds)
    return room


def fields_ahead(text):
    """Return the fields that a journal begins with."""
    try:
        return read_fields(text)
    except BadText:
        raise BadLine(0) from None


def rows_of_deeds(lines, at):
    """Return (whether it is a batch, deeds) for each deed that the lines from this one on tell."""
    rows = []
    while at < len(lines):
        many = many_in_batch(lines[at])
        is_batch = many is not None
        if is_batch:
            at += 1
        else:
            many = 1
        rows.append((is_batch, deeds_from(lines, at, many)))
        at = at + many
    return rows


def many_in_batch(line):
    """Return how many deeds the batch has that a line begins, None if it begins none."""
    word, _, number = line.partition(" ")
    return int(number) if word == "batch" and is_decimal(number, FIGURES_OF_A_NUMBER) else None


def deeds_from(lines, at, many):
    """Return the deeds that so many lines tell."""
    deeds = []
    for number in range(at, at + many):
        if number >= len(lines):
            raise BadLine(len(lines))
        deed = deed_in(lines[number])
        if deed is None:
            raise BadLine(number)
        deeds.append(deed)
    return deeds


def do_all(room, deeds):
    """Do deeds with a room."""
    for deed in deeds:
        do_deed(room, deed)


def do_batch(room, deeds):
    """Do deeds with a room as one deed."""
    room.batched(lambda here: do_all(here, deeds))
