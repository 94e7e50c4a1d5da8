"""Journals: texts that tell how a bench was made, and what was done at it."""

from onestillview.benches import Bench
from onestillview.errors import BadFloor, BadJournal, BadProgram, BadStanding, WalkError
from onestillview.lines import do_at, read_deed, read_floor_line, read_standing_line, written_deed, written_standing
from onestillview.texts import Program


def journal(bench):
    """The journal of this bench."""
    kind, size = bench.floor
    head = [bench.program.text, f"floor {kind} {size}", f"standing {written_standing(bench.first)}", "deeds"]
    return "\n".join(head + [written_deed(entry[0]) for entry in bench.done])


def bench_of(lines):
    """The Bench that is told by the lines ahead of the line deeds, three of them or more."""
    last = len(lines)
    text = "\n".join(lines[:-2])
    try:
        Program(text)
    except BadProgram as error:
        raise BadJournal(error.value) from None
    floor = read_floor_line(lines[-2])
    if floor is None:
        raise BadJournal(last - 1)
    standing = read_standing_line(lines[-1])
    if standing is None:
        raise BadJournal(last)
    try:
        return Bench(text, floor, standing)
    except BadFloor:
        raise BadJournal(last - 1) from None
    except BadStanding:
        raise BadJournal(last) from None


def read_journal(text):
    """The Bench on which what this journal tells was done."""
    if not isinstance(text, str):
        raise BadJournal(0)
    lines = text.split("\n")
    if "deeds" not in lines:
        raise BadJournal(len(lines) + 1)
    at = lines.index("deeds")
    if at < 3:
        raise BadJournal(at + 1)
    bench = bench_of(lines[:at])
    for number, line in enumerate(lines[at + 1:], start=at + 2):
        deed = read_deed(line)
        if deed is None:
            raise BadJournal(number)
        try:
            do_at(bench, deed)
        except WalkError:
            raise BadJournal(number) from None
    return bench
