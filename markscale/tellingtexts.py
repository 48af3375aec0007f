"""Tellings as texts: rows of words, with a semicolon and a blank between the rows."""

from markscale.errors import NoTable, NoTelling
from markscale.figures import are_digits, show_number
from markscale.makes import made_kind
from markscale.plans import MOST_KIND_COLUMNS, MOST_MAKES
from markscale.sieves import MOST_PARTS, tests_in
from markscale.tables import are_unlike, is_word
from markscale.tabletexts import read_cell, show_cell
from markscale.tellings import look_at_telling
from markscale.wishes import axis_word

BETWEEN_ROWS = "; "
STEPS = ("sieve", "bins", "kinds")
# How many words a part of a test has itself, and how many tests stand in it.
PART_WORDS = {"there": 2, "same": 3, "under": 3, "not": 1, "both": 1, "one": 1}
PART_TESTS = {"there": 0, "same": 0, "under": 0, "not": 1, "both": 2, "one": 2}
BASES = {"2": 2, "10": 10}
MOST_SHEET_FIGURES = 4


def show_by_form(cell):
    """The text that writes a cell whose kind is known by its form."""
    if isinstance(cell, tuple):
        return show_cell("number", cell)
    return show_cell("word" if isinstance(cell, str) else "day", cell)


def words_of_test(test):
    """The words of a test, one behind the other."""
    words = [test[0]]
    inner = tests_in(test)
    for part in inner:
        words.extend(words_of_test(part))
    if inner == []:
        words.append(test[1])
        words.extend([show_by_form(cell) for cell in test[2:]])
    return words


def step_words(step):
    """The words of a step."""
    if step[0] == "sieve":
        return ["sieve"] + words_of_test(step[1])
    if step[0] == "bins":
        return ["bins", step[1], step[2], show_number(step[3]), show_number(step[4])]
    words = ["kinds"] + step[1] + [":"]
    for make in step[2]:
        words.extend(make)
    return words


def wish_words(wish):
    """The words of a wish."""
    words = axis_word(wish).split(" ")
    if wish[0] == "straight":
        return words + [show_number(end) for end in wish[1:]]
    if wish[0] == "broken":
        for pair in wish[1]:
            words.extend([show_number(pair[0]), show_number(pair[1])])
    if wish[0] == "order" and len(wish) == 2:
        words.extend(wish[1])
    return words


def channel_rows(head, channel):
    """The row of a column and its wish, in a list; none where there is no such channel."""
    return [] if channel is None else [[head, channel[0]] + wish_words(channel[1])]


def side_rows(sides):
    """The rows of the wishes at the sides."""
    return [[head] + wish_words(wish) for head, wish in zip(("left", "right"), sides) if wish is not None]


def layer_words(layer):
    """The words of a layer."""
    return ["mark"] + [part for part in layer if part is not None]


def sheet_words(sheet):
    """The words of a sheet."""
    return ["sheet", str(sheet[0]), str(sheet[1])] + (["own"] if sheet[2] else [])


def show_telling(telling):
    """The text that writes a telling."""
    rows = [step_words(step) for step in telling[0]]
    rows.extend(channel_rows("x", telling[1]))
    rows.extend(side_rows(telling[2]))
    rows.extend([layer_words(layer) for layer in telling[3]])
    for head, channel in (("colour", telling[4]), ("size", telling[5]), ("facet", telling[6])):
        rows.extend(channel_rows(head, channel))
    rows.append(sheet_words(telling[7]))
    return BETWEEN_ROWS.join([" ".join(row) for row in rows])


def read_there(kind, text):
    """The cell of a kind that a text writes, which must be there."""
    try:
        cell = read_cell(kind, text)
    except NoTable:
        raise NoTelling(None) from None
    if cell is None:
        raise NoTelling(None)
    return cell


def read_by_form(text):
    """The cell that a text writes, its kind known by the form: a day alone has two bars, a word no figure."""
    if is_word(text):
        return text
    return read_there("day" if text.count("-") == 2 else "number", text)


def parts_in(words):
    """The parts of a test, each as its own words, in the order in which they are written."""
    parts = []
    at = 0
    lacking = 1
    while lacking > 0:
        if at >= len(words) or len(parts) == MOST_PARTS or words[at] not in PART_WORDS:
            raise NoTelling(None)
        part = words[at:at + PART_WORDS[words[at]]]
        lacking += PART_TESTS[words[at]] - 1
        at += len(part)
        parts.append(part)
    if at != len(words):
        raise NoTelling(None)
    return parts


def read_part(words):
    """The test that the words of a part without tests in it write."""
    if len(words) != PART_WORDS[words[0]] or not is_word(words[1]):
        raise NoTelling(None)
    return tuple(words[:2] + [read_by_form(text) for text in words[2:]])


def read_test(words):
    """The test that words write."""
    # From the end on, the tests that a part wants are always there already, the first one last.
    tests = []
    for part in reversed(parts_in(words)):
        many = PART_TESTS[part[0]]
        if many == 0:
            tests.append(read_part(part))
        else:
            inner = list(reversed(tests[-many:]))
            tests = tests[:-many] + [tuple([part[0]] + inner)]
    return tests[0]


def read_bins(words):
    """The step of bins that words write."""
    if len(words) != 4 or not is_word(words[0]) or not is_word(words[1]):
        raise NoTelling(None)
    begin = read_there("number", words[2])
    width = read_there("number", words[3])
    if width[0] <= 0:
        raise NoTelling(None)
    return ("bins", words[0], words[1], begin, width)


def is_make_form(make):
    """Whether a tuple is of a new name, a word by which something is made and a column, whatever columns there are."""
    return len(make) == 3 and all([is_word(word) for word in make]) and made_kind(make[1], "number") is not None


def read_kinds(words):
    """The step of kinds that words write."""
    if words.count(":") != 1:
        raise NoTelling(None)
    names = words[:words.index(":")]
    behind = words[len(names) + 1:]
    makes = [tuple(behind[at:at + 3]) for at in range(0, len(behind), 3)]
    if len(names) > MOST_KIND_COLUMNS or not all([is_word(name) for name in names]) or not are_unlike(names):
        raise NoTelling(None)
    if not 1 <= len(makes) <= MOST_MAKES or not all([is_make_form(make) for make in makes]):
        raise NoTelling(None)
    return ("kinds", names, makes)


def read_step(row):
    """The step that a row writes."""
    if row[0] == "sieve":
        return ("sieve", read_test(row[1:]))
    return read_bins(row[1:]) if row[0] == "bins" else read_kinds(row[1:])


def read_wish(words):
    """What words write in the stead of a wish."""
    if words == []:
        raise NoTelling(None)
    if words[0] == "turns":
        return tuple(["turns"] + [BASES.get(word) for word in words[1:]])
    cells = [read_by_form(word) for word in words[1:]]
    if words[0] == "broken":
        return ("broken", tuple([tuple(cells[at:at + 2]) for at in range(0, len(cells), 2)]))
    if words[0] == "order" and cells:
        return ("order", tuple(cells))
    return tuple(words[:1] + cells)


def read_channel(rows, head):
    """The tuple of a column and a wish that the row with that head writes, or None where there is none."""
    if head not in rows:
        return None
    words = rows[head][0]
    if words == []:
        raise NoTelling(None)
    return (words[0], read_wish(words[1:]))


def read_side(rows, head):
    """The wish that the row with that head writes, or None where there is none."""
    return read_wish(rows[head][0]) if head in rows else None


def read_layer(words):
    """What words write in the stead of a layer."""
    return tuple(words + [None]) if len(words) == 3 else tuple(words)


def read_sheet(words):
    """What words write in the stead of a sheet."""
    if len(words) < 2 or not all([are_digits(word) and len(word) <= MOST_SHEET_FIGURES for word in words[:2]]):
        raise NoTelling(None)
    return (int(words[0]), int(words[1]), words[2:] == ["own"])


def read_parts(rows):
    """What rows write in the stead of a telling, in whatever order they come."""
    steps = [read_step(row) for row in rows if row[0] in STEPS]
    by_head = {"sheet": [], "mark": []}
    for row in rows:
        by_head.setdefault(row[0], []).append(row[1:])
    if by_head["sheet"] == []:
        raise NoTelling(None)
    sides = (read_side(by_head, "left"), read_side(by_head, "right"))
    layers = tuple([read_layer(words) for words in by_head["mark"]])
    channels = [read_channel(by_head, head) for head in ("x", "colour", "size", "facet")]
    sheet = read_sheet(by_head["sheet"][0])
    return (steps, channels[0], sides, layers, channels[1], channels[2], channels[3], sheet)


def read_telling(text):
    """The telling that a text writes."""
    if not isinstance(text, str):
        raise NoTelling(None)
    told = read_parts([row.split(" ") for row in text.split(BETWEEN_ROWS)])
    try:
        look_at_telling(told)
    except NoTelling:
        raise NoTelling(None) from None
    # Each telling is written in one way: rows in another order, twice or of no form make another text.
    if show_telling(told) != text:
        raise NoTelling(None)
    return told
