"""Programs: one text for all walkers, which tells a step and a new mark from a VIEW."""

from onestillview.checks import check_floor, check_place, check_standing
from onestillview.checks import is_integer, is_sense, is_tuple_of, is_within
from onestillview.errors import BadProgram, BadSense, BadStanding, BadStep, BadView, NoProgram
from onestillview.floors import cells_seen, is_view, place_at

LETTERS = "abcdefghijklmnopqrstuvwxyz"
FIGURES = "0123456789"
LINE_WORDS = ("marks", "let", "step", "mark")
# For each word of an expression, how many expressions follow it.
PARTS = {
    "mine": 0,
    "others": 0,
    "size": 0,
    "ahead": 0,
    "behind": 0,
    "count": 1,
    "marked": 2,
    "room": 1,
    "plus": 2,
    "less": 2,
    "same": 2,
    "half": 1,
    "turn": 1,
    "pick": 3,
}
MOST_LETS = 6
MOST_WORDS = 40
MOST_DEEP = 10
MOST_SIGNS = 6
MOST_SUM = 999


def has_only(signs, word):
    """Whether the word has one sign or more, and these signs alone."""
    return word != "" and all([sign in signs for sign in word])


def is_written(word, most):
    """Whether Python writes an integer of so many figures at most so."""
    figures = word.removeprefix("-")
    if len(figures) > most or not has_only(FIGURES, figures):
        return False
    return word == "0" or not figures.startswith("0")


def is_figures(word):
    """Whether Python writes an integer from -99 to 99 so."""
    return is_written(word, 2)


def is_new_name(word, names):
    """Whether a let can tell this name behind lets of these names."""
    if len(word) > MOST_SIGNS or not has_only(LETTERS + FIGURES, word) or word[0] in FIGURES:
        return False
    return word not in LINE_WORDS and word not in PARTS and word not in names


def parts_of(word, names):
    """How many expressions follow this word in an expression, None if it cannot stand in one."""
    if is_figures(word) or word in names:
        return 0
    return PARTS.get(word)


def is_expression(words, names):
    """Whether these words are one expression, not too deep, that needs these names at most."""
    depths = []
    # Read from the right, the expressions that belong to a word are the first ones still open.
    for word in reversed(words):
        many = parts_of(word, names)
        if many is None or many > len(depths):
            return False
        depths = [1 + max(depths[:many], default=0)] + depths[many:]
    return len(depths) == 1 and depths[0] <= MOST_DEEP


def is_let_line(words, names):
    """Whether a line that begins with let can stand behind lets of these names."""
    if len(words) < 2 or len(names) == MOST_LETS:
        return False
    return is_new_name(words[1], names) and is_expression(words[2:], names)


def can_stand(words, names):
    """Whether a line can stand where one that begins so is awaited, behind lets of these names."""
    if len(words) > MOST_WORDS:
        return False
    if words[0] == "marks":
        return len(words) == 2 and words[1] in ("1", "2", "3", "4")
    if words[0] == "let":
        return is_let_line(words, names)
    return is_expression(words[1:], names)


def awaited_behind(word):
    """The words with which lines can begin behind one that begins with this word."""
    if word in ("marks", "let"):
        return ("let", "step")
    return ("mark",) if word == "step" else ()


def read_lines(text):
    """The lines of a program, each one a list of its words."""
    if not isinstance(text, str):
        raise BadProgram(0)
    lines = [line.split(" ") for line in text.split("\n")]
    names = []
    awaited = ("marks",)
    for number, words in enumerate(lines, start=1):
        if words[0] not in awaited or not can_stand(words, names):
            raise BadProgram(number)
        if words[0] == "let":
            names.append(words[1])
        awaited = awaited_behind(words[0])
    if awaited:
        raise BadProgram(len(lines) + 1)
    return lines


def read_expression(words):
    """The words of an expression, with integers for their figures."""
    return tuple([int(word) if is_figures(word) else word for word in words])


class Program:
    """A program, the same for all walkers."""

    def __init__(self, text):
        lines = read_lines(text)
        self.text = text
        self.marks = int(lines[0][1])
        self.lets = tuple([(words[1], read_expression(words[2:])) for words in lines[1:-2]])
        self.for_step = read_expression(lines[-2][1:])
        self.for_mark = read_expression(lines[-1][1:])

    def __eq__(self, other):
        return isinstance(other, Program) and self.text == other.text


def is_let(value):
    """Whether it is a (name, text) of two strings."""
    return is_tuple_of(value, 2) and isinstance(value[0], str) and isinstance(value[1], str)


def program_of(marks, lets, step, mark):
    """The Program of the text that these make."""
    if not is_integer(marks) or not isinstance(lets, tuple) or not all([is_let(let) for let in lets]):
        raise BadProgram(0)
    if not isinstance(step, str) or not isinstance(mark, str):
        raise BadProgram(0)
    told = [f"let {name} {text}" for name, text in lets]
    return Program("\n".join([f"marks {marks}", *told, f"step {step}", f"mark {mark}"]))


def held(value, low, high):
    """The value, but low for a lesser and high for a greater one."""
    return max(low, min(value, high))


def first_met(cells):
    """The number, from 1, of the first of these CELLS in which others stand, 0 without any."""
    for number, cell in enumerate(cells, start=1):
        if cell != ():
            return number
    return 0


def seen_cell(floor, seen, steps):
    """The CELL so many steps ahead in the VIEW seen, behind for steps below 0, None without such a place."""
    _, here, ahead, behind = seen
    if floor[0] == "ring":
        steps = steps % floor[1]
    if steps == 0:
        return here
    cells = ahead if steps > 0 else behind
    return cells[abs(steps) - 1] if abs(steps) <= len(cells) else None


def counted(word, cell, parts):
    """The value of a word that asks for the CELL at its first part, None being no place."""
    if word == "room":
        return 0 if cell is None else 1
    if cell is None:
        return 0
    return len(cell) if word == "count" else cell.count(parts[1])


def reckoned(word, parts):
    """The value of a word that asks for nothing but its parts."""
    first = parts[0]
    if word == "half":
        return first // 2
    if word == "turn":
        return -first
    if word == "plus":
        return held(first + parts[1], -MOST_SUM, MOST_SUM)
    if word == "less":
        return 1 if first < parts[1] else 0
    if word == "same":
        return 1 if first == parts[1] else 0
    return parts[1] if first == 0 else parts[2]


def value_of_word(word, parts, known, floor, seen):
    """The value of a word, or an integer, that has these values behind it."""
    if isinstance(word, int):
        return word
    if word in known:
        return known[word]
    if word in ("count", "marked", "room"):
        return counted(word, seen_cell(floor, seen, parts[0]), parts)
    return reckoned(word, parts)


def value_of(expression, known, floor, seen):
    """The value of an expression of words that are known and others."""
    values = []
    # As in is_expression: from the right, a word's parts are the first values still open.
    for word in reversed(expression):
        many = PARTS.get(word, 0)
        values = [value_of_word(word, values[:many], known, floor, seen)] + values[many:]
    return values[0]


def known_at_first(floor, seen):
    """The values of all words that have no expression behind them."""
    mark, _, ahead, behind = seen
    return {
        "mine": mark,
        "others": sum([len(cell) for cell in cells_seen(floor, seen)]),
        "size": floor[1],
        "ahead": first_met(ahead),
        "behind": first_met(behind),
    }


def thought_of(program, floor, seen):
    """The (step, mark) that is thought by the VIEW seen, which is known to be one for this program."""
    known = known_at_first(floor, seen)
    for name, expression in program.lets:
        known[name] = value_of(expression, known, floor, seen)
    step = value_of(program.for_step, known, floor, seen)
    mark = value_of(program.for_mark, known, floor, seen)
    return (held(step, -1, 1), held(mark, 0, program.marks - 1))


def has_marks_of(program, floor, seen):
    """Whether the VIEW seen has marks of this program alone."""
    cells = [(seen[0],), *cells_seen(floor, seen)]
    return all([mark < program.marks for cell in cells for mark in cell])


def check_program(value):
    """Refuses what is no Program."""
    if not isinstance(value, Program):
        raise NoProgram(value)


def check_start(program, floor, standing):
    """Refuses what is no Program, no FLOOR, or no STANDING on it with marks of the program alone."""
    check_program(program)
    check_floor(floor)
    check_standing(floor, standing)
    if not all([entry[1] < program.marks for entry in standing]):
        raise BadStanding(standing)


def thought(program, floor, view):
    """The (step, mark) that the program tells from this VIEW."""
    check_program(program)
    check_floor(floor)
    if not is_view(floor, view) or not has_marks_of(program, floor, view):
        raise BadView(view)
    return thought_of(program, floor, view)


def place_behind(floor, place, sense, step):
    """The place behind this step of a walker with this sense, the same place if none is there."""
    reached = place_at(floor, place, sense * step)
    return place if reached is None else reached


def moved(floor, place, sense, step):
    """The place to which a walker with this sense goes from here by this step."""
    check_floor(floor)
    check_place(floor, place)
    if not is_sense(sense):
        raise BadSense(sense)
    if not is_within(step, -1, 1):
        raise BadStep(step)
    return place_behind(floor, place, sense, step)
