"""Books: rows and programs with names, claims about them, and changes that can be undone."""

from weirlines.allrows import are_mixed, judge_programs
from weirlines.bounds import highest
from weirlines.errors import BadOrder, BadRow
from weirlines.exact import exact, is_amount, is_integer, is_less
from weirlines.planerrors import BadProgram, Claimed, NoName, NothingDone
from weirlines.plantexts import LETTERS, is_name
from weirlines.programs import Program
from weirlines.rows import Row, behind, check_number, with_volumes


class Book:
    """Rows and programs by their names, in the order in which these came."""

    MOST = 12

    def __init__(self):
        # None of these is ever changed in place: what has been, and what an attempt began with, stays as it is.
        self.held = {}
        self.made = ()
        self.past = ()

    def __len__(self):
        return len(self.held)

    def __iter__(self):
        return iter(self.held)

    def __contains__(self, name):
        return isinstance(name, str) and name in self.held

    def __getitem__(self, name):
        return copied(held_by(self.held, name))

    def titles(self):
        """The names, ascending."""
        return sorted(list(self.held))

    def claims(self):
        """The claims, in the order in which they were made."""
        return list(self.made)

    def put(self, name, thing):
        """Puts a row or a program under a name, new or in the place of one of its kind."""
        if not isinstance(thing, (Row, Program)):
            raise BadRow("a book holds rows and programs")
        if not can_have(self.held, name, thing):
            raise NoName(name)
        self.change(name, {**self.held, name: copied(thing)})

    def claim_never(self, name, place, number):
        """The most that the first basins of a row can ever have, and the claim that it is at most a number, if so."""
        row = row_held(self.held, name)
        found = highest(row, place)
        check_number(number)
        if not is_less(exact(number), found.number):
            self.made = (*self.made, ("never", name, place, exact(number)))
        return found

    def claim_alike(self, one, other):
        """The judgement of two programs, and the claim that they are always the same, if they are."""
        found = judge_programs(program_held(self.held, one), program_held(self.held, other))
        if found:
            self.made = (*self.made, ("alike", one, other))
        return found

    def pour(self, name, *order):
        """Does an order on a row, and returns the row then."""
        late = behind(row_held(self.held, name), order)
        self.change(name, {**self.held, name: late})
        return copied(late)

    def fill(self, name, basin, volume):
        """Gives a basin of a row another volume, and returns the row then."""
        row = row_held(self.held, name)
        if not is_integer(basin) or not 0 <= basin < len(row):
            raise BadOrder(None)
        if not is_amount(volume):
            raise BadRow("a volume is a fraction from 0 on")
        late = with_volumes(row, [*row.volumes[:basin], exact(volume), *row.volumes[basin + 1:]])
        self.change(name, {**self.held, name: late})
        return copied(late)

    def drop(self, name):
        """Takes out what no claim names, and returns it."""
        thing = held_by(self.held, name)
        self.change(name, {known: self.held[known] for known in self.held if known != name})
        return copied(thing)

    def undo(self):
        """Goes back to what was held ahead of the last change that was not undone."""
        if not self.past:
            raise NothingDone("there is no change that can be undone")
        name, held = self.past[-1]
        check_claims(self.made, name, held)
        self.held = held
        self.past = self.past[:-1]

    def attempt(self, deed):
        """What a deed with the book returns; the book is as it was if an error ends it."""
        held, made, past = self.held, self.made, self.past
        failed = True
        try:
            result = deed(self)
            failed = None
        finally:
            if failed is not None:
                self.held, self.made, self.past = held, made, past
        return result

    def change(self, name, held):
        """Holds other things, which are unlike those held now in one name alone, if no claim is broken."""
        check_claims(self.made, name, held)
        self.past = (*self.past, (name, self.held))
        self.held = held


def copied(thing):
    if isinstance(thing, Row):
        return Row(thing.areas, thing.volumes, thing.locks)
    return Program(thing.rounds)


def is_held(held, name):
    return isinstance(name, str) and name in held


def held_by(held, name):
    if not is_held(held, name):
        raise NoName(name)
    return held[name]


def row_held(held, name):
    thing = held_by(held, name)
    if not isinstance(thing, Row):
        raise BadRow("this is no row")
    return thing


def program_held(held, name):
    thing = held_by(held, name)
    if not isinstance(thing, Program):
        raise BadProgram(None)
    return thing


def can_have(held, name, thing):
    """Whether something can be put under a name: a new one, or that of a thing of its kind."""
    if is_held(held, name):
        return isinstance(held[name], Row) == isinstance(thing, Row)
    if not isinstance(name, str) or not all([sign in LETTERS for sign in name]):
        return False
    return is_name(name) and len(held) < Book.MOST


def check_claims(made, name, held):
    """Refuses things of which those under one name would break a claim."""
    for number, claim in enumerate(made):
        if name in claim[1:3] and not holds(claim, held):
            raise Claimed(number)


def holds(claim, held):
    """Whether a claim can be asked of some things, and holds then."""
    if claim[0] == "never":
        return never_more(held, claim[1], claim[2], claim[3])
    return always_alike(held, claim[1], claim[2])


def never_more(held, name, place, number):
    row = held.get(name)
    if not isinstance(row, Row) or place > len(row):
        return False
    return not is_less(number, highest(row, place).number)


def always_alike(held, one, other):
    first, second = held.get(one), held.get(other)
    if not isinstance(first, Program) or not isinstance(second, Program):
        return False
    if are_mixed(first.rounds + second.rounds):
        return False
    return bool(judge_programs(first, second))
