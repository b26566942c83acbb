"""The class Book: rows of statements with their answers, which can be undone, audited and replayed."""

from everypoint.errors import BadRow, NothingToUndo, RunFault, TextFault, TooLarge
from everypoint.keeping import same_solid
from everypoint.running import MAKING, made_of_name, worked_out
from everypoint.scripts import read_statement

MOST_ROWS = 60
MARK = " = "


class Book:
    """Rows, and the solids that they make."""

    def __init__(self):
        self._rows = []
        self._made = {}

    def enter(self, line):
        """Runs the line after the rows, appends its row, and returns it."""
        words, slots = read_statement(line, 1)
        answer, thing = worked_out(self._made, words, slots, 1)
        # The faults of a line are told first, also by a full book.
        if len(self._rows) >= MOST_ROWS:
            raise TooLarge("rows")
        row = line if answer is None else line + MARK + answer
        self._rows.append(row)
        if thing is not None:
            self._made[words[1]] = thing
        return row

    def undo(self):
        """Removes the last row with its effect and returns it."""
        if not self._rows:
            raise NothingToUndo()
        row = self._rows.pop()
        words = row.split(" ")
        if words[0] in MAKING:
            del self._made[words[1]]
        return row

    @property
    def rows(self):
        """The list of the rows."""
        return list(self._rows)

    @property
    def names(self):
        """The list of the names made, ascending."""
        return sorted(list(self._made))

    def tree_of(self, name):
        """Returns the kept tree of a name."""
        return made_of_name(self._made, name)[1]

    def twin(self):
        """Returns an equal book on which later deeds have no effect here."""
        other = Book()
        other._rows = list(self._rows)
        other._made = dict(self._made)
        return other

    def __len__(self):
        """The number of rows."""
        return len(self._rows)

    def __iter__(self):
        """Goes through the rows in order."""
        return iter(self._rows)

    def __eq__(self, other):
        """True for a book with equal rows."""
        return isinstance(other, Book) and self._rows == other._rows


def is_entered(book, row):
    """True if the row is right in the book, which then has it; otherwise the book may have another row or none."""
    if not isinstance(row, str):
        return False
    line = row.partition(MARK)[0]
    try:
        entered = book.enter(line)
    except (TextFault, RunFault, TooLarge):
        return False
    return entered == row


def audit(rows):
    """Returns the number of the first row of a list that is not right, or None."""
    book = Book()
    for number, row in enumerate(rows):
        if not is_entered(book, row):
            return number
    return None


def replay(rows):
    """Returns the book of a list of rows that are all right."""
    book = Book()
    for number, row in enumerate(rows):
        if not is_entered(book, row):
            raise BadRow(number)
    return book


def compare_books(first, second):
    """Returns None for equal books, or the least number at which their rows differ or only one has a row."""
    own, others = first.rows, second.rows
    for number, (row, other) in enumerate(zip(own, others)):
        if row != other:
            return number
    return None if len(own) == len(others) else min(len(own), len(others))


def shared_names(first, second):
    """Returns the tuples (name, same) for each name made in both books, ascending."""
    return [
        (name, same_solid(first.tree_of(name), second.tree_of(name)))
        for name in first.names if name in second.names
    ]
