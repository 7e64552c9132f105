"""Schemas: tables, columns, references and their actions, and the texts of schemas."""

from keyactions.errors import BadAction, BadColumn, BadName, BadTable, BadText, Full, NoReference, NoTable
from keyactions.forms import check_lines, is_integer, is_name, is_number, word_lines

MOST_LINKS = 4
MOST_COLUMNS = 3
MOST_TABLES = 5
MOST_REFERENCES = 10


class Column:
    """A column of a table, other than `id`.

    `links` has a tuple (target, action) for each reference.
    """

    def __init__(self, name, *references, nullable=False, default=None):
        if not is_name(name) or name == "id":
            raise BadName(name)
        if not isinstance(nullable, bool) or not (default is None or is_integer(default)):
            raise BadColumn(name)
        check_links(references, nullable, default)
        if have_one_target_twice(references) or len(references) > MOST_LINKS:
            raise BadColumn(name)
        self.name = name
        self.links = references
        self.nullable = nullable
        self.default = default

    def __eq__(self, other):
        return (isinstance(other, Column) and self.name == other.name and self.links == other.links
                and self.nullable == other.nullable and self.default == other.default)


class Table:
    """A table. `parts` are its columns without `id`, `links` the references of `id` as those of a column."""

    def __init__(self, name, *columns, ids=()):
        if not is_name(name):
            raise BadName(name)
        check_links(ids, False, None)
        if have_one_target_twice(ids) or name in targets_of(ids) or len(ids) > MOST_LINKS:
            raise BadTable(name)
        names = [column.name for column in columns]
        if len(set(names)) < len(names) or len(names) > MOST_COLUMNS:
            raise BadTable(name)
        self.name = name
        # The fields of a column can be assigned, so each table has columns of its own.
        self.parts = tuple([with_links(column, column.links) for column in columns])
        self.links = tuple(ids)

    def __eq__(self, other):
        return (isinstance(other, Table) and self.name == other.name and self.parts == other.parts
                and self.links == other.links)


class Schema:
    """Tables with references among them. It never changes.

    `layout` has its tables by their names, in order. It is for the package alone, and is only read.
    """

    ACTIONS = ("cascade", "set_null", "set_default", "restrict", "no_action")

    def __init__(self, *tables):
        check_names(tables)
        check_targets(tables)
        if not 1 <= len(tables) <= MOST_TABLES:
            raise Full(MOST_TABLES)
        actions = actions_of(tables)
        if len(actions) > MOST_REFERENCES:
            raise Full(MOST_REFERENCES)
        # The fields of a table can be assigned, so each schema has tables of its own.
        self._tables = tuple([with_actions(table, actions) for table in tables])
        self._actions = actions
        self.layout = {table.name: table for table in self._tables}

    def tables(self):
        """The names of the tables, in order."""
        return list(self.layout)

    def columns(self, table):
        """The names of the columns of a table, in order, without `id`."""
        if table not in self:
            raise NoTable(table)
        return [column.name for column in self.layout[table].parts]

    def references(self, *, table=None, target=None, action=None):
        """The references, ascending: all, or those that agree with what is given."""
        return sorted([
            reference for reference in self._actions
            if table in (None, reference[0]) and target in (None, reference[2])
            and action in (None, self._actions[reference])
        ])

    def action(self, reference):
        """The action of a reference."""
        self._check(reference)
        return self._actions[reference]

    def changed(self, reference, action):
        """A schema in which a reference has another action."""
        self._check(reference)
        table, column, _ = reference
        nullable, default = traits(self.layout[table], column)
        if not may_have(action, nullable, default):
            raise BadAction(action)
        actions = self._actions
        return self._with({link: action if link == reference else actions[link] for link in actions})

    def relaxed(self, references):
        """A schema in which some references have the action `no_action`."""
        for reference in references:
            self._check(reference)
        loose = {reference: True for reference in references}
        actions = self._actions
        return self._with({link: "no_action" if link in loose else actions[link] for link in actions})

    def closure(self, tables):
        """The tables of the closure of some tables, in the order of the schema."""
        for table in tables:
            if table not in self:
                raise NoTable(table)
        reached = reachable(self._targets(), tables)
        return [table for table in self.layout if table in reached]

    def implied(self):
        """The references that no database has faults for alone, ascending."""
        return [reference for reference in self.references() if self._is_implied(reference)]

    def _is_implied(self, reference):
        table, column, target = reference
        others = [link[2] for link in self.references(table=table) if link[1] == column and link != reference]
        targets = self._targets()
        if column == "id":
            targets[table] = others
        return target in reachable(targets, others)

    def _targets(self):
        """The targets of the column `id` of each table."""
        return {name: targets_of(self.layout[name].links) for name in self.layout}

    def _check(self, reference):
        if not is_strings(reference) or reference not in self._actions:
            raise NoReference(reference)

    def _with(self, actions):
        tables = [with_actions(table, actions) for table in self._tables]
        return Schema(*tables)

    def __eq__(self, other):
        return isinstance(other, Schema) and self._tables == other._tables

    def __len__(self):
        return len(self._tables)

    def __contains__(self, x):
        return isinstance(x, str) and x in self.layout

    def __str__(self):
        return "\n".join([line for table in self._tables for line in table_lines(table)])

    def __repr__(self):
        return f"Schema({len(self._tables)} tables, {len(self._actions)} references)"


def read_schema(text):
    """The schema with this text."""
    lines = [schema_line(words) for words in word_lines(text)]
    if lines and not (lines[0] is not None and lines[0][0] == "table"):
        raise BadText(0)
    check_lines(lines)
    groups = []
    for line in lines:
        if line[0] == "table":
            groups.append([line])
        else:
            groups[-1].append(line)
    tables = [table_of(group) for group in groups]
    return Schema(*tables)


def table_of(lines):
    """The table that the line of a table and the lines of its columns tell."""
    columns = [column_of(line) for line in lines[1:]]
    _, name, _, _, links = lines[0]
    return Table(name, *columns, ids=links)


def column_of(line):
    """The column that its line tells."""
    _, name, nullable, default, links = line
    return Column(name, *links, nullable=nullable, default=default)


def schema_line(words):
    """What a line of a schema's text tells: (word, name, nullable, default, references); None if it has no form."""
    if len(words) < 2 or words[0] not in ("table", "column") or not is_name(words[1]):
        return None
    nullable, default, rest = False, None, words[2:]
    if words[0] == "column":
        nullable = rest[:1] == ["null"]
        rest = rest[1:] if nullable else rest
        if rest and rest[0].startswith("default="):
            number = rest[0].removeprefix("default=")
            if not is_number(number):
                return None
            default, rest = int(number), rest[1:]
    links = tuple([(target, action) for target, _, action in [word.partition(":") for word in rest]])
    if not all([is_name(target) and action in Schema.ACTIONS for target, action in links]):
        return None
    return (words[0], words[1], nullable, default, links)


def table_lines(table):
    """The lines of a table in the text of a schema."""
    return [
        " ".join(["table", table.name, *link_words(table.links)]),
        *[" ".join(column_words(column)) for column in table.parts],
    ]


def column_words(column):
    """The words of the line of a column."""
    null = ["null"] if column.nullable else []
    default = [] if column.default is None else [f"default={column.default}"]
    return ["column", column.name, *null, *default, *link_words(column.links)]


def link_words(links):
    """A word for each reference."""
    return [f"{target}:{action}" for target, action in links]


def check_links(links, nullable, default):
    """Raises for the first of some values that is no reference which such a column may have."""
    for link in links:
        if not is_link(link) or not may_have(link[1], nullable, default):
            raise BadAction(link)


def is_link(value):
    """Whether any value is a tuple of a name and something, as references are passed."""
    return isinstance(value, tuple) and len(value) == 2 and is_name(value[0])


def may_have(value, nullable, default):
    """Whether any value is an action that such a column may have. `id` has no default and is not nullable."""
    if value == "set_null":
        return nullable
    if value == "set_default":
        return nullable or default is not None
    return value in Schema.ACTIONS


def is_strings(value):
    """Whether any value is a tuple of strings, as references are."""
    return isinstance(value, tuple) and all([isinstance(part, str) for part in value])


def targets_of(links):
    """The targets of some references of one column."""
    return [target for target, _ in links]


def have_one_target_twice(links):
    """Whether two references of one column have the same target."""
    return len(set(targets_of(links))) < len(links)


def linked(table):
    """The columns of a table with their references, in order, `id` first."""
    return [("id", table.links), *[(column.name, column.links) for column in table.parts]]


def traits(table, name):
    """Whether a column is nullable, and its default."""
    for column in table.parts:
        if column.name == name:
            return (column.nullable, column.default)
    return (False, None)


def with_links(column, links):
    """A column that differs in its references alone."""
    return Column(column.name, *links, nullable=column.nullable, default=column.default)


def with_actions(table, actions):
    """A table that differs in its actions alone; `actions` has one for each of its references."""
    links = {
        name: tuple([(target, actions[(table.name, name, target)]) for target in targets_of(old)])
        for name, old in linked(table)
    }
    columns = [with_links(column, links[column.name]) for column in table.parts]
    ids = links["id"]
    return Table(table.name, *columns, ids=ids)


def actions_of(tables):
    """The action of each reference of some tables."""
    return {
        (table.name, name, target): action
        for table in tables for name, links in linked(table) for target, action in links
    }


def check_names(tables):
    """Raises for the first table with a name that was there before."""
    seen = {}
    for table in tables:
        if table.name in seen:
            raise BadTable(table.name)
        seen[table.name] = True


def check_targets(tables):
    """Raises for the first target that is no table."""
    names = [table.name for table in tables]
    for table in tables:
        for _, links in linked(table):
            for target in targets_of(links):
                if target not in names:
                    raise NoTable(target)


def reachable(targets, tables):
    """A dict of what is reached from some tables, where `targets` has the next ones of each."""
    reached = {}
    waiting = list(tables)
    while waiting:
        table = waiting.pop()
        if table not in reached:
            reached[table] = True
            waiting.extend(targets[table])
    return reached
