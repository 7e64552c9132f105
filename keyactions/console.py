"""The console: a database that is told line by line what to do."""

from keyactions.conflicts import conflicts
from keyactions.databases import Database, row_told
from keyactions.errors import BadCommand
from keyactions.forms import is_name, is_number, value_word


def insert_row(base, words):
    """`insert TABLE ID COLUMN=VALUE ..`."""
    told = row_told(["row", *words])
    check(told is not None)
    table, row, values = told
    base.insert(table, row, values)
    return "ok"


def delete_rows(base, words):
    """`delete TABLE ID ..`: the number of rows that have gone."""
    numbers = words[1:]
    check(numbers != [] and is_name(words[0]) and all([is_number(word) for word in numbers]))
    # Numbers have one form each, so equal ids are equal words.
    check(len(set(numbers)) == len(numbers))
    before = len(base)
    base.delete(words[0], [int(word) for word in numbers])
    return str(before - len(base))


def undo_last(base, words):
    """`undo`."""
    check(words == [])
    base.undo()
    return "ok"


def show_ids(base, words):
    """`rows TABLE`: the ids."""
    check(len(words) == 1 and is_name(words[0]))
    return " ".join([str(row) for row in base.ids(words[0])])


def show_faults(base, words):
    """`faults`: the words of each."""
    check(words == [])
    return "; ".join([f"{table} {value_word(row)} {column} {target}" for table, row, column, target in base.faults()])


def count_conflicts(base, words):
    """`conflicts`: how many."""
    check(words == [])
    return str(len(conflicts(base.schema)))


def show_rows(base, words):
    """`show`: the text of the database in one line."""
    check(words == [])
    return str(base).replace("\n", "; ")


def check(fits):
    """Raises for a line that does not have its form."""
    if not fits:
        raise BadCommand()


COMMANDS = {
    "insert": insert_row,
    "delete": delete_rows,
    "undo": undo_last,
    "rows": show_ids,
    "faults": show_faults,
    "conflicts": count_conflicts,
    "show": show_rows,
}


class Console:
    """A database, at first without rows, and the lines that it is told."""

    def __init__(self, schema):
        self._base = Database(schema)

    def say(self, line):
        """Carries out a line; gives the answer. A line may be any value."""
        words = line.split(" ") if isinstance(line, str) else [""]
        check(words[0] in COMMANDS)
        command = COMMANDS[words[0]]
        answer = command(self._base, words[1:])
        return answer or "-"
