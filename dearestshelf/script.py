"""Texts whose lines change a desk and ask it questions."""

from dearestshelf.errors import BadLine, ShelfError
from dearestshelf.ratios import Ratio

MOST_DIGITS = 18

# What must stand behind the first word of a line.
SHAPES = {
    "put": ("name", "number", "number"),
    "drop": ("name",),
    "price": ("name", "number"),
    "weight": ("name", "number"),
    "aside": ("number",),
    "limit": ("number",),
    "free": (),
    "best": (),
    "share": ("name",),
    "list": (),
}


def run(desk, text):
    """Do the lines of a text, which count as one deed, and return the answers."""
    # What a refused line leaves behind is on the twin alone.
    twin = desk.twin()
    answers = []
    for number, line in enumerate(text.split("\n"), start=1):
        if line != "":
            command = _command(number, line)
            try:
                answers.extend(_answers(twin, command))
            except ShelfError as refusal:
                raise BadLine(number) from refusal
    desk.follow(twin)
    return answers


def _command(number, line):
    """Return the words of a line, with numbers in the place of their digits; raise BadLine if the line is none."""
    words = line.split(" ")
    shape = SHAPES.get(words[0])
    if shape is None or len(words) != len(shape) + 1:
        raise BadLine(number)
    command = [words[0]]
    for kind, word in zip(shape, words[1:]):
        if word == "" or (kind == "number" and not _is_number(word)):
            raise BadLine(number)
        command.append(int(word) if kind == "number" else word)
    return command


def _is_number(word):
    """Tell whether the word is a number as a line may hold it."""
    return word.isdecimal() and len(word) <= MOST_DIGITS and (word == "0" or not word.startswith("0"))


def _answers(desk, command):
    """Do a command, and return its answers."""
    match command:
        case ["best"]:
            return [_best_answer(desk)]
        case ["share", name]:
            return [str(_share(desk, name))]
        case ["list"]:
            return _listing(desk)
    _do_deed(desk, command)
    return []


def _do_deed(desk, command):
    """Do the deed of a command."""
    match command:
        case ["put", name, price, weight]:
            desk.put(name, price, weight)
        case ["drop", name]:
            desk.drop(name)
        case ["price", name, price]:
            desk.set_price(name, price)
        case ["weight", name, weight]:
            desk.set_weight(name, weight)
        case ["aside", aside]:
            desk.set_aside(aside)
        case ["limit", limit]:
            desk.set_limit(limit)
        case ["free"]:
            desk.set_limit(None)


def _best_answer(desk):
    """Return the names of the best lot and its worth as one answer."""
    names = desk.best_lot
    worth = desk.best_worth
    words = " ".join(names) if len(names) > 0 else "nothing"
    return f"{words}: {worth}"


def _share(desk, name):
    """Return the share of a thing of the desk while the best lot stands."""
    weight = desk.weight_of(name)
    names = desk.best_lot
    if name not in names:
        return Ratio(0)
    return Ratio(weight, desk.aside_weight + sum([desk.weight_of(other) for other in names]))


def _listing(desk):
    """Return one answer for each thing of the desk."""
    return [_row(name, desk[name], desk.weight_of(name)) for name in desk]


def _row(name, price, weight):
    """Return the answer for one thing: three columns, of which a long number is not cut."""
    return f"{name:<12}{price:>14}{weight:>14}"
