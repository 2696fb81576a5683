"""An office's desk: boards and rows under names, in forks, with a way back."""
from neverhalves.boards import beside, check_board, check_row, negative, swapped_by, table, turned, unit_board
from neverhalves.books import alike_by, back, behind
from neverhalves.ends import check_ends, has_no_end
from neverhalves.errors import (
    DoubleName, InvalidName, InvalidRow, NothingToUndo, UnknownName, Unreadable, WrongKind,
)
from neverhalves.hands import begun
from neverhalves.kinds import kinds_of
from neverhalves.packs import swapped_along
from neverhalves.readers import board_in, row_in
from neverhalves.texts import show_board, show_hand, show_row

MOST_LETTERS = 8

# For each deed, which of the names that it reads are those of boards.
DEEDS = {
    "swapped": (True, False), "negative": (True,), "turned": (True,), "table": (True,), "unit": (True,),
    "beside": (True, True), "behind": (False, False), "back": (False,),
}

# How many names stand behind the first word of a text that is an order.
NAMES = {
    "swapped": 3, "negative": 2, "turned": 2, "table": 2, "unit": 2, "beside": 3, "behind": 3, "back": 2,
    "drop": 1, "branch": 1, "switch": 1, "undo": 0, "show": 1, "hand": 2, "lead": 3, "endless": 1, "types": 1,
    "forks": 0, "names": 0, "same": 1,
}


def is_name(name):
    """True if a text is one to eight letters from a to z."""
    return 0 < len(name) <= MOST_LETTERS and all(["a" <= sign <= "z" for sign in name])


def check_name(name):
    """Refuses what is no name."""
    if not is_name(name):
        raise InvalidName(name)


def is_board_here(told):
    """True if a named thing is a board, and not a row."""
    return told != () and isinstance(told[0], tuple)


def done(kind, told):
    """What a deed makes of a list of the things that it reads."""
    if kind == "swapped":
        return swapped_by(told[0], told[1])
    if kind == "negative":
        return negative(told[0])
    if kind == "turned":
        return turned(told[0])
    if kind == "table":
        return table(told[0])
    if kind == "unit":
        return unit_board(told[0])
    if kind == "beside":
        return beside(told[0], told[1])
    if kind == "behind":
        return behind(told[0], told[1])
    return back(told[0])


def listed(words):
    """The words of a list, separated by a space."""
    return " ".join(words) or "none"


def yes_or_no(holds):
    """The answer to a question."""
    return "yes" if holds else "no"


class Desk:
    """A desk; what a fork has, and which forks there are, is never changed, but exchanged."""

    def __init__(self):
        self._fork = "main"
        self._forks = {"main": {}}
        self._past = []

    @property
    def fork(self):
        """The name of the open fork."""
        return self._fork

    def forks(self):
        """The ascending list of the names of the forks."""
        return sorted(self._forks)

    def names(self):
        """The ascending list of the names of boards and rows."""
        return sorted(self._forks[self._fork])

    def __len__(self):
        """How many calls stand that `undo` takes back."""
        return len(self._past)

    def _exchange(self, fork, names, opened):
        """Gives a fork its names and opens a fork; `undo` knows how all was ahead of it."""
        self._past.append((self._fork, self._forks))
        forks = {one: self._forks[one] for one in self._forks}
        forks[fork] = names
        self._forks = forks
        self._fork = opened

    def _set(self, name, told):
        """Gives something a name in the open fork."""
        names = {one: self._forks[self._fork][one] for one in self._forks[self._fork]}
        names[name] = told
        self._exchange(self._fork, names, self._fork)

    def _named(self, names, kinds):
        """The list of the things that have some names, each a board where that is wanted, a row elsewhere."""
        here = self._forks[self._fork]
        for name in names:
            if name not in here:
                raise UnknownName(name)
        for name, kind in zip(names, kinds):
            if is_board_here(here[name]) != kind:
                raise WrongKind(name)
        return [here[name] for name in names]

    def put(self, name, board):
        """Gives a board a name."""
        check_name(name)
        check_board(board)
        self._set(name, board)

    def note(self, name, row):
        """Gives a row of integers from 0 on a name."""
        check_name(name)
        if any([place < 0 for place in row]):
            raise InvalidRow(row)
        self._set(name, row)

    def make(self, name, deed):
        """Gives what a deed makes of named things a name."""
        check_name(name)
        told = self._named(deed[1:], DEEDS[deed[0]])
        self._set(name, done(deed[0], told))

    def drop(self, name):
        """Takes a name out."""
        here = self._forks[self._fork]
        if name not in here:
            raise UnknownName(name)
        names = {one: here[one] for one in here if one != name}
        self._exchange(self._fork, names, self._fork)

    def branch(self, name):
        """Makes a new fork with the names of the open one, which stays open."""
        check_name(name)
        if name in self._forks:
            raise DoubleName(name)
        self._exchange(name, self._forks[self._fork], self._fork)

    def switch(self, name):
        """Opens a fork."""
        if name not in self._forks:
            raise UnknownName(name)
        self._exchange(name, self._forks[name], name)

    def undo(self):
        """Takes the last call that stands back."""
        if not self._past:
            raise NothingToUndo(0)
        self._fork, self._forks = self._past.pop()

    def board_named(self, name):
        """The board that has a name."""
        return self._named([name], [True])[0]

    def row_named(self, name):
        """The row that has a name."""
        return self._named([name], [False])[0]

    def hand(self, board, row):
        """The hand behind a named row by a named board."""
        start, places = self._named([board, row], [True, False])
        check_row(start, places)
        return swapped_along(begun(start), places)

    def same_as(self, name):
        """The ascending list of the other names of the same board, or row."""
        here = self._forks[self._fork]
        if name not in here:
            raise UnknownName(name)
        return sorted([one for one in here if one != name and here[one] == here[name]])

    def lead_alike(self, board, one, other):
        """True if two named rows lead to the same hand of a named board but for order."""
        start, mine, its = self._named([board, one, other], [True, False, False])
        check_row(start, mine)
        check_row(start, its)
        return alike_by(start, mine, its)

    def is_endless(self, name):
        """True if a named board has endlessly many hands."""
        return has_no_end(self.board_named(name))

    def types(self, name):
        """The ascending list of the types of the pieces of a named board."""
        told = self.board_named(name)
        check_ends(told)
        return kinds_of(told)

    def order(self, text):
        """Does what a text says, and returns the answer."""
        words = text.split(" ")
        if words[0] == "put" or words[0] == "note":
            return self._write(text, words)
        if NAMES.get(words[0]) != len(words) - 1 or not all([is_name(word) for word in words[1:]]):
            raise Unreadable(text)
        if words[0] in DEEDS:
            self.make(words[1], tuple(words[:1] + words[2:]))
            return "done"
        if words[0] in ("drop", "branch", "switch", "undo"):
            return self._act(words[0], words[1:])
        return self._answer(words[0], words[1:])

    def _write(self, text, words):
        """Does an order with a board or a row in it, of which the words are told, too."""
        rest = " ".join(words[2:])
        told = board_in(rest) if words[0] == "put" else row_in(rest)
        if len(words) < 3 or not is_name(words[1]) or told is None:
            raise Unreadable(text)
        self._set(words[1], told)
        return "done"

    def _act(self, word, names):
        """Does an order that names no more than one thing."""
        if word == "undo":
            self.undo()
        elif word == "drop":
            self.drop(names[0])
        elif word == "branch":
            self.branch(names[0])
        else:
            self.switch(names[0])
        return "done"

    def _answer(self, word, names):
        """The answer to an order that changes nothing."""
        if word == "show":
            return self._shown(names[0])
        if word == "hand":
            return show_hand(self.hand(names[0], names[1]))
        if word == "lead":
            return yes_or_no(self.lead_alike(names[0], names[1], names[2]))
        if word == "endless":
            return yes_or_no(self.is_endless(names[0]))
        if word == "types":
            return listed([f"{kind}{many}" for kind, many in self.types(names[0])])
        if word == "same":
            return listed(self.same_as(names[0]))
        return listed(self.forks() if word == "forks" else self.names())

    def _shown(self, name):
        """The text of a named thing."""
        here = self._forks[self._fork]
        if name not in here:
            raise UnknownName(name)
        return show_board(here[name]) if is_board_here(here[name]) else show_row(here[name])
