"""Lines of journals and desks: what a bench is told, and how it is written."""

from onestillview.texts import is_written

# Python neither reads nor writes numbers of more than 4300 figures.
MOST_FIGURES = 900
WALKER_DEEDS = ("look", "think", "step", "go")


def is_number(word):
    """Whether Python writes an integer so."""
    return is_written(word, MOST_FIGURES)


def read_numbers(words):
    """The integers that these words are, None if one of them is none."""
    return [int(word) for word in words] if all([is_number(word) for word in words]) else None


def read_standing(words):
    """What these words tell as a standing, in threes, whether it is one or not; None if they have no such form."""
    numbers = read_numbers(words)
    if numbers is None or len(numbers) % 3 != 0:
        return None
    return tuple([tuple(numbers[at:at + 3]) for at in range(0, len(numbers), 3)])


def read_floor_line(line):
    """What this line tells as a floor, whether it is one or not; None if it has no such form."""
    words = line.split(" ")
    if len(words) != 3 or words[0] != "floor" or words[1] == "" or not is_number(words[2]):
        return None
    return (words[1], int(words[2]))


def read_standing_line(line):
    """What this line tells as a standing, None if it has no such form."""
    words = line.split(" ")
    return read_standing(words[1:]) if words[0] == "standing" else None


def read_deed(line):
    """(word, walker, number or standing) of a line of a bench's deed, None if it has no such form."""
    words = line.split(" ")
    if words[0] == "stand":
        standing = read_standing(words[1:])
        return None if standing is None else ("stand", standing)
    if words[0] not in (*WALKER_DEEDS, "turns") or len(words) != 2 or not is_number(words[1]):
        return None
    return (words[0], int(words[1]))


def do_at(bench, deed):
    """Does at the bench what a line of a deed tells."""
    word, told = deed
    if word == "look":
        bench.look(told)
    elif word == "think":
        bench.think(told)
    elif word == "step":
        bench.step(told)
    elif word == "go":
        bench.go(told)
    elif word == "turns":
        bench.turns(told)
    else:
        bench.stand(told)


def written_standing(standing):
    """Place, mark and sense of each walker, parted by one blank."""
    return " ".join([str(number) for entry in standing for number in entry])


def written_deed(deed):
    """The line of this deed."""
    word, told = deed
    numbers = written_standing(told) if word == "stand" else told
    return f"{word} {numbers}"
