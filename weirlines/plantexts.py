"""Plans: a row, orders and programs with names, and texts that tell them."""

from weirlines.planerrors import BadText
from weirlines.programs import MOST_ROUNDS, Program
from weirlines.rows import MOST_AREA, MOST_BASINS, Row, check_row, with_volumes

LETTERS = "abcdefghijklmnopqrstuvwxyz"
FIGURES = "0123456789"
MOST_FIGURES = 6
MOST_NUMBER = 999999
MOST_LETTERS = 10
MOST_NAMES = 12
MOST_TOLD = 400
MOST_WITHIN = 8
KEPT_WORDS = ("areas", "volumes", "locks", "order", "program", "odd", "even", "right", "left")
WORDS_OF_ROUNDS = {"odd": ("every", 2, 1), "even": ("every", 2, 0), "right": ("right",), "left": ("left",)}


class Plan:
    """A row, and orders and programs by their names."""

    def __init__(self, row, orders, programs):
        check_row(row)
        self.row = with_volumes(row, row.volumes)
        self.orders = {name: list(orders[name]) for name in sorted(orders)}
        self.programs = {name: Program(programs[name].rounds) for name in sorted(programs)}

    def __len__(self):
        return len([*self.orders, *self.programs])

    def __contains__(self, name):
        return isinstance(name, str) and (name in self.orders or name in self.programs)

    def __eq__(self, other):
        return (isinstance(other, Plan) and self.row == other.row and self.orders == other.orders
                and self.programs == other.programs)


class Scanner:
    """The words, numbers and signs of one line, which are taken from left to right."""

    def __init__(self, number, line):
        self.number = number
        self.tokens = tokens_of(line)
        self.at = 0

    def text(self):
        """What comes next: empty at the end of the line."""
        return self.tokens[self.at][0]

    def text_behind(self):
        """What comes behind that, where it is not the end of the line."""
        return self.tokens[self.at + 1][0]

    def here(self):
        """The column of what comes next."""
        return self.tokens[self.at][1]

    def refuse(self, column):
        raise BadText(self.number, column)

    def skip(self):
        self.at += 1

    def expect(self, text):
        """Takes a word or a sign that has to stand here; the empty one stands at the end."""
        if self.text() != text:
            self.refuse(self.here())
        self.skip()

    def integer(self, least, most):
        """Takes a number that has to stand here, within limits."""
        text = self.text()
        if not is_number(text) or not least <= int(text) <= most:
            self.refuse(self.here())
        self.skip()
        return int(text)


class Listing:
    """Reads what stands behind a colon, openings or rounds, into a list.

    `known` has the lists with names that can stand there; `row` has the weirs, and is None where rounds are read.
    """

    def __init__(self, scanner, known, row, most):
        self.scanner = scanner
        self.known = known
        self.row = row
        self.most = most

    def things(self, within):
        """All of them up to the end of the line, or to the closing sign of a loop, within so many loops."""
        found = []
        while self.scanner.text() not in ("", ")"):
            column = self.scanner.here()
            more = self.thing(within)
            if len(found) + len(more) > self.most:
                self.scanner.refuse(column)
            found.extend(more)
        return found

    def thing(self, within):
        """What one loop, name, weir or round stands for."""
        text = self.scanner.text()
        if is_number(text) and self.scanner.text_behind() == "(":
            return self.loop(within)
        if text in self.known:
            self.scanner.skip()
            return self.known[text]
        return [self.one_weir() if self.row is not None else self.one_round()]

    def loop(self, within):
        often = self.scanner.integer(0, self.most)
        if within == MOST_WITHIN:
            self.scanner.refuse(self.scanner.here())
        self.scanner.expect("(")
        found = self.things(within + 1)
        self.scanner.expect(")")
        return found * often

    def one_weir(self):
        text = self.scanner.text()
        if not is_number(text) or int(text) not in self.row:
            self.scanner.refuse(self.scanner.here())
        self.scanner.skip()
        return int(text)

    def one_round(self):
        text = self.scanner.text()
        if text in WORDS_OF_ROUNDS:
            self.scanner.skip()
            return WORDS_OF_ROUNDS[text]
        step = self.scanner.integer(2, 4)
        self.scanner.expect(":")
        return ("every", step, self.scanner.integer(0, step - 1))


def tokens_of(line):
    """The words, numbers and signs of a line, with their columns, and an empty one behind the end of the line."""
    told = line.partition("#")[0]
    found = []
    at = 0
    while at < len(told):
        end = end_of_token(told, at)
        if told[at] != " ":
            found.append((told[at:end], at + 1))
        at = end
    found.append(("", len(line) + 1))
    return found


def end_of_token(line, at):
    """Where a word or a number that begins at a place ends; every other sign stands for itself."""
    for signs in (LETTERS, FIGURES):
        end = at
        while end < len(line) and line[end] in signs:
            end += 1
        if end > at:
            return end
    return at + 1


def is_number(text):
    """Whether a token is a number that can stand in a text."""
    # Longer ones are not even made to integers: Python refuses to do so from some thousands of figures on.
    if text == "" or text[0] not in FIGURES:
        return False
    return text == "0" or (text[0] != "0" and len(text) <= MOST_FIGURES)


def is_name(text):
    """Whether a token is a word that can be a name."""
    return text != "" and text[0] in LETTERS and len(text) <= MOST_LETTERS and text not in KEPT_WORDS


def read_plan(text):
    """The plan that a text tells."""
    if not isinstance(text, str):
        raise BadText(0, 0)
    lines = text.split("\n")
    scanners = [Scanner(at + 1, line) for at, line in enumerate(lines)]
    left = [scanner for scanner in scanners if scanner.text() != ""]
    if not left:
        raise BadText(len(lines) + 1, 1)
    areas = read_areas(left[0])
    if len(left) == 1:
        raise BadText(len(lines) + 1, 1)
    volumes = read_volumes(left[1], len(areas))
    locks = []
    left = left[2:]
    if left and left[0].text() == "locks":
        locks = read_locks(left[0], len(areas))
        left = left[1:]
    row = Row(tuple(areas), tuple(volumes), locks)
    orders, rounds = {}, {}
    for scanner in left:
        read_named(scanner, row, orders, rounds)
    return Plan(row, orders, {name: Program(rounds[name]) for name in rounds})


def read_areas(scanner):
    scanner.expect("areas")
    areas = [scanner.integer(1, MOST_AREA)]
    while len(areas) < MOST_BASINS and scanner.text() != "":
        areas.append(scanner.integer(1, MOST_AREA))
    scanner.expect("")
    return areas


def read_volumes(scanner, many):
    scanner.expect("volumes")
    volumes = [read_volume(scanner) for _ in range(many)]
    scanner.expect("")
    return volumes


def read_volume(scanner):
    top = scanner.integer(0, MOST_NUMBER)
    if scanner.text() != "/":
        return (top, 1)
    scanner.skip()
    return (top, scanner.integer(1, MOST_NUMBER))


def read_locks(scanner, many):
    scanner.expect("locks")
    locks = [scanner.integer(1, many - 1)]
    while scanner.text() != "":
        locks.append(scanner.integer(locks[-1] + 1, many - 1))
    return locks


def read_named(scanner, row, orders, rounds):
    """Reads the line of an order, or of a program, to those of the lines ahead."""
    kind = scanner.text()
    if kind not in ("order", "program") or len(orders) + len(rounds) == MOST_NAMES:
        scanner.refuse(scanner.here())
    scanner.skip()
    name = scanner.text()
    if not is_name(name) or name in orders or name in rounds:
        scanner.refuse(scanner.here())
    scanner.skip()
    scanner.expect(":")
    if kind == "order":
        orders[name] = Listing(scanner, orders, row, MOST_TOLD).things(0)
    else:
        rounds[name] = Listing(scanner, rounds, None, MOST_ROUNDS).things(0)
    scanner.expect("")


def write_plan(plan):
    """A text that is read as the plan."""
    row = plan.row
    lines = [line_of_words("areas", [str(area) for area in row.areas])]
    lines.append(line_of_words("volumes", [volume_text(volume) for volume in row.volumes]))
    if row.locks:
        lines.append(line_of_words("locks", [str(lock) for lock in row.locks]))
    for name in sorted(plan.orders):
        lines.append(line_of_words(f"order {name}:", looped([str(weir) for weir in plan.orders[name]])))
    for name in sorted(plan.programs):
        rounds = [round_text(told) for told in plan.programs[name].rounds]
        lines.append(line_of_words(f"program {name}:", looped(rounds)))
    return "".join(lines)


def line_of_words(head, words):
    return " ".join([head, *words]) + "\n"


def volume_text(volume):
    top, bottom = volume
    return str(top) if bottom == 1 else f"{top}/{bottom}"


def round_text(told):
    for word, known in WORDS_OF_ROUNDS.items():
        if told == known:
            return word
    return f"{told[1]}:{told[2]}"


def looped(words):
    """Words one behind the other, with a loop wherever some stretch of them stands several times side by side."""
    found = []
    at = 0
    while at < len(words):
        long, often = stretch_at(words, at)
        stretch = " ".join(words[at:at + long])
        found.append(f"{often}({stretch})" if often > 1 else stretch)
        at += long * often
    return found


def stretch_at(words, at):
    """How long the stretch is whose copies side by side take up most from a place on, and how many there are."""
    best = (1, 1)
    for long in range(1, (len(words) - at) // 2 + 1):
        stretch = words[at:at + long]
        often = 1
        while words[at + often * long:at + (often + 1) * long] == stretch:
            often += 1
        if often > 1 and long * often > best[0] * best[1]:
            best = (long, often)
    return best
