"""The desk: tables and tellings by names, and rows that ask what is to be known of them."""

from markscale.drawing import drawn
from markscale.errors import NoName, NoRow
from markscale.figures import are_digits, show_number
from markscale.reader import not_apart, read_back
from markscale.rules import sayings
from markscale.shapes import is_mark
from markscale.tables import is_word
from markscale.tabletexts import read_table
from markscale.tellingtexts import read_telling

KEPT = ("table", "telling")
# How many words a row has, by its first one.
SIZES = {"drop": 2, "draw": 3, "shape": 4, "behind": 4, "why": 4, "read": 4, "apart": 3, "rules": 3, "names": 1}
NUMBERED = 4
MOST_FIGURES = 6
BETWEEN = "; "
IN_STEAD_OF_ROWS_END = " | "
NONE = "-"


def is_count(text):
    """Whether a text writes a number by figures, without a nought ahead but 0, and no more than six."""
    return are_digits(text) and len(text) <= MOST_FIGURES and (text == "0" or not text.startswith("0"))


def parts_of_row(row):
    """The words of a row; where a table or telling is told, all that follows the name is one."""
    if not isinstance(row, str) or "\n" in row:
        raise NoRow("a row is a text without a line feed")
    parts = row.split(" ")
    if parts[0] in KEPT and len(parts) > 2:
        return parts[:2] + [" ".join(parts[2:])]
    if parts[0] not in SIZES or len(parts) != SIZES[parts[0]]:
        raise NoRow("there is no such row")
    if len(parts) == NUMBERED and not is_count(parts[3]):
        raise NoRow("a number is told by at most six figures")
    return parts


def joined(between, texts):
    """Texts with something between, or a dash where there are none."""
    return NONE if texts == [] else between.join(texts)


def with_commas(numbers):
    """Whole numbers with commas between, or a dash where there are none."""
    return joined(",", [str(one) for one in numbers])


def show_part(part):
    """The text of a part of a shape."""
    if isinstance(part, str):
        return NONE if part == "" else part
    if not isinstance(part, list):
        return str(part)
    if isinstance(part[0], tuple):
        return ";".join([with_commas(point) for point in part])
    return with_commas(part)


def show_reading(reading):
    """The text of a reading: its channel, and the ends of a stretch or words."""
    what = reading[1]
    shown = what[1] if what[0] == "among" else [show_number(end) for end in what[1:]]
    return " ".join([reading[0]] + shown)


def draw_answer(paper):
    """How many shapes, marks and lost there are."""
    marks = [shape for shape in paper[0] if is_mark(shape)]
    return " ".join([str(len(paper[0])), str(len(marks)), str(len(paper[2]))])


def why_answer(telling, table, paper, at):
    """What is told of a row of the table, layer by layer."""
    if at >= len(table[1]):
        raise NoRow("there is no such row of the table")
    reasons = {}
    for loss in paper[2]:
        if loss[0] == at:
            reasons[loss[1]] = " ".join([loss[2], str(loss[3])])
    return BETWEEN.join([reasons.get(layer, "shown") for layer in range(len(telling[3]))])


def read_answer(shapes, at):
    """The readings of the mark of that number."""
    for told in read_back(shapes):
        if told[0] == at:
            return BETWEEN.join([show_reading(reading) for reading in told[1]])
    raise NoRow("there is no such mark")


def shape_answer(head, paper, at):
    """The parts of the shape of that number, what is behind it, or what it tells back."""
    if at >= len(paper[0]):
        raise NoRow("there is no such shape")
    if head == "shape":
        return " ".join([show_part(part) for part in paper[0][at]])
    return with_commas(paper[1][at]) if head == "behind" else read_answer(paper[0], at)


def answer_of(parts, telling, table):
    """The answer to a row that asks of a telling and a table."""
    head = parts[0]
    if head == "rules":
        told = [" ".join([saying[0], str(saying[1]), str(saying[2])]) for saying in sayings(telling, table)]
        return joined(BETWEEN, told)
    paper = drawn(telling, table)
    if head == "draw":
        return draw_answer(paper)
    if head == "apart":
        return joined(BETWEEN, [with_commas(alike) for alike in not_apart(paper[0])])
    at = int(parts[3])
    return why_answer(telling, table, paper, at) if head == "why" else shape_answer(head, paper, at)


def found_by(kept, name):
    """What stands by a name."""
    # Whatever is no word stands by nothing: only words are kept.
    if name not in kept:
        raise NoName("nothing stands by the name")
    return kept[name]


class Desk:
    """A desk keeps what it is told by names, and answers rows."""

    def __init__(self):
        self.tables = {}
        self.tellings = {}

    def say(self, row):
        """The answer to a row."""
        parts = parts_of_row(row)
        if parts[0] in KEPT:
            return self.keep(parts)
        if parts[0] == "drop":
            return self.drop(parts[1])
        if parts[0] == "names":
            return joined(" ", sorted(set(list(self.tables) + list(self.tellings))))
        telling = found_by(self.tellings, parts[1])
        table = found_by(self.tables, parts[2])
        return answer_of(parts, telling, table)

    def keep(self, parts):
        """Let what a text writes stand by a name."""
        if not is_word(parts[1]):
            raise NoName("a name is a word")
        if parts[0] == "table":
            self.tables[parts[1]] = read_table(parts[2].replace(IN_STEAD_OF_ROWS_END, "\n"))
        else:
            self.tellings[parts[1]] = read_telling(parts[2])
        return "ok"

    def drop(self, name):
        """Let nothing stand by a name."""
        if name not in self.tables and name not in self.tellings:
            raise NoName("nothing stands by the name")
        self.tables.pop(name, None)
        self.tellings.pop(name, None)
        return "ok"
