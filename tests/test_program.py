"""The whole program: point 3 over small schemas and databases, and what must not matter to any of it [9, 11, 12, 17]."""

import itertools
import pathlib
import random

from accounts import Account, eased, full_delete, is_certificate, rebuilt, some_value, with_no_action
from keyactions.certificates import certificate, certifies
from keyactions.changes import allowed, fewest_changes
from keyactions.conflicts import conflicts, is_order_free
from keyactions.console import Console
from keyactions.databases import Database, read_database
from keyactions.errors import NotFree, Refused
from keyactions.reasons import end_of, explains, reasons
from keyactions.runs import ends, replay
from keyactions.schemas import Schema, read_schema
from keyactions.witnesses import parts, witness
from keyactions.worlds import can_go, open_tables
from readings import dense_schema
from samples import Case, shop
from test_conflicts import small_databases, small_schema
from test_runs import plain_ends, texts
from test_witnesses import end_by_model

FOLDER = pathlib.Path(__file__).resolve().parent.parent / "keyactions"


def defaults_of(schema):
    return {(table.name, part.name): part.default for table in schema.layout.values() for part in table.parts}


class Guarantees(Case):
    """Point 3."""

    def shows_two_ends(self, schema):
        """The witness of a schema, fired by the model."""
        base, table, ids, one, other = witness(schema)
        self.assertTrue(base.is_valid())
        self.assertNotEqual(end_by_model(base, table, ids, one), end_by_model(base, table, ids, other), str(schema))
        self.assertTrue(parts(schema, (base, table, ids, one, other)))

    def test_a_certificate_or_a_witness(self):
        chance, counts = random.Random(70), {True: 0, False: 0}
        while min(counts.values()) < 50:
            schema = dense_schema(chance)
            free = conflicts(schema) == []
            counts[free] += 1
            self.assertIs(free, is_order_free(schema))
            if free:
                self.assertIsNone(witness(schema))
                self.assertTrue(certifies(schema, certificate(schema)))
                self.assertTrue(is_certificate(schema, certificate(schema)))
                self.assertEqual([], fewest_changes(schema))
            else:
                self.shows_two_ends(schema)
                self.fails(NotFree, {"conflict": conflicts(schema)[0]}, certificate, schema)
                self.assertFalse(certifies(schema, {start: [schema.tables(), open_tables(schema, start)] for start in schema.tables()}))
                self.assertNotEqual([], fewest_changes(schema))

    def test_no_smaller_set_of_changes_will_do(self):
        # Each smaller set is shown to leave a delete with two ends; that of `fewest_changes` leaves a certificate.
        chance, sizes = random.Random(71), {}
        while sum(sizes.values()) < 40 or len(sizes) < 2:
            schema = dense_schema(chance)
            found = fewest_changes(schema)
            if not found or len(schema.references()) > 8:
                continue
            sizes[len(found)] = sizes.get(len(found), 0) + 1
            for some in itertools.combinations(schema.references(), len(found) - 1):
                self.shows_two_ends(with_no_action(schema, some))
            self.assertTrue(is_certificate(schema.relaxed(found), certificate(schema.relaxed(found))))

    def test_all_small_databases_of_small_schemas(self):
        chance = random.Random(72)
        tried = deletes = done = 0
        while tried < 30:
            schema = small_schema(chance)
            if len(schema.references()) < 2:
                continue
            if not is_order_free(schema):
                self.shows_two_ends(schema)
                schema = schema.relaxed(fewest_changes(schema))
            tried += 1
            bases = list(small_databases(schema))
            for base in chance.sample(bases, min(8, len(bases))):
                for table, ids in itertools.product(schema.tables(), ([], [1], [2], [1, 2])):
                    if set(ids) <= set(base.ids(table)):
                        done += self.check_delete(base, table, ids)
                        deletes += 1
        self.assertGreater(done, 100)
        self.assertGreater(deletes - done, 50)

    def check_delete(self, base, table, ids):
        """All runs have the end that `end_of` tells; `reasons` explains it; tells whether the delete is done."""
        expected = plain_ends(base, table, ids, defaults_of(base.schema), 400)
        end = end_of(base, table, ids)
        if expected is not None:
            self.assertEqual(expected, texts([end]), (str(base.schema), str(base), table, ids))
            self.assertEqual([end], ends(base, table, ids))
        if end is None:
            self.fails(Refused, {"cause": None}, reasons, base, table, ids)
            return False
        account, found = Account(base, table, ids, end), reasons(base, table, ids)
        self.assertTrue(account.accepts(found))
        self.assertTrue(explains(base, table, ids, found))
        # Each difference has its key, and nothing else has one.
        old = {(name, row, column): value for name, row, values in base.rows() for column, value in values.items()}
        new = {(name, row, column): value for name, row, values in end.rows() for column, value in values.items()}
        gone = {(name, row) for name in base.schema.tables() for row in set(base.ids(name)) - set(end.ids(name))}
        self.assertEqual(gone | {key for key in new if new[key] != old[key]}, set(found))
        return True

    def test_deletes_of_larger_databases(self):
        chance = random.Random(73)
        for _ in range(120):
            base, table, ids, _ = full_delete(chance)
            end = end_of(base, table, ids)
            fired = []
            try:
                fired = base.copy().delete(table, ids, choose=chance.choice)
            except Refused as error:
                self.assertIsNone(end)
                self.assertIsNotNone(error.cause)
                continue
            self.assertEqual(replay(base, table, ids, fired), end)
            self.assertTrue(explains(base, table, ids, reasons(base, table, ids)))

    def test_a_witness_in_all_orders(self):
        chance, tried = random.Random(74), 0
        while tried < 15:
            schema = small_schema(chance)
            if is_order_free(schema):
                continue
            base, table, ids, _, _ = witness(schema)
            expected = plain_ends(base, table, ids, defaults_of(schema), 600)
            if expected is not None:
                tried += 1
                self.assertGreater(len(expected), 1)
                self.assertEqual(expected, texts(ends(base, table, ids)))


NAMES = {"a": "id", "b": "z", "c": "mm", "d": "abcdefgh", "e": "b"}


class Names(Case):
    """Names and orders of tables do not matter."""

    def renamed(self, schema, names, order):
        def link(reference):
            return (names[reference[0]], reference[1], names[reference[2]])
        return rebuilt(schema, {}, names, order), link

    def pair(self, chance, schema):
        """The schema with other names in another order, and what becomes of tables and references."""
        names = NAMES if chance.random() < 0.5 else dict(zip("abcde", chance.sample("abcde", 5)))
        names = {name: names[name] for name in schema.tables()}
        order = chance.sample(schema.tables(), len(schema))
        return (*self.renamed(schema, names, order), names)

    def test_worlds_conflicts_and_changes(self):
        chance, several = random.Random(75), 0
        for _ in range(90):
            schema = dense_schema(chance)
            other, link, names = self.pair(chance, schema)
            self.assertEqual({link(reference) for reference in schema.references()}, set(other.references()))
            for start in schema.tables():
                self.assertEqual({names[name] for name in open_tables(schema, start)}, set(open_tables(other, names[start])))
                some = [name for name in schema.tables() if chance.random() < 0.5]
                self.assertEqual({names[name] for name in can_go(schema, start, some)},
                                 set(can_go(other, names[start], [names[name] for name in some])))
            self.assertEqual(sorted(self.moved(conflicts(schema), link, names)), conflicts(other))
            self.assertEqual(len(fewest_changes(schema)), len(fewest_changes(other)))
            self.assertEqual({link(reference) for reference in schema.implied()}, set(other.implied()))
            several += len(conflicts(schema)) > 1
            for reference in schema.references()[:2]:
                self.assertEqual(allowed(schema, reference), allowed(other, link(reference)))
        self.assertGreater(several, 8)

    def moved(self, found, link, names):
        """Conflicts with other names."""
        for start, way, one, other in found:
            pair = (link(one), link(other))
            yield (names[start], way, *(pair if way == "row" else sorted(pair)))

    def test_certificates_and_witnesses(self):
        chance = random.Random(76)
        for _ in range(100):
            schema = dense_schema(chance)
            other, link, names = self.pair(chance, schema)
            if is_order_free(schema):
                made = {names[start]: [[name for name in other.tables() if name in [names[old] for old in stage]] for stage in stages]
                        for start, stages in certificate(schema).items()}
                self.assertTrue(certifies(other, made))
                self.assertEqual({start: stages[-1] for start, stages in made.items()},
                                 {start: stages[-1] for start, stages in certificate(other).items()})
            else:
                base, table, ids, one, two = witness(schema)
                left = self.rows(base, other, names)
                runs = [[(*link(event[:3]), event[3]) for event in run] for run in (one, two)]
                self.assertTrue(parts(other, (left, names[table], ids, *runs)))

    def rows(self, base, other, names):
        """The rows of a database in the schema with other names."""
        left = Database(other)
        for table, row, values in base.rows():
            left.insert(names[table], row, values)
        return left

    def test_ends_and_reasons(self):
        chance = random.Random(77)
        done = 0
        while done < 60:
            base, table, ids, _ = full_delete(chance)
            other, _, names = self.pair(chance, base.schema)
            left, end = self.rows(base, other, names), end_of(base, table, ids)
            if end is None:
                self.assertIsNone(end_of(left, names[table], ids))
                continue
            done += 1
            self.assertEqual(self.rows(end, other, names), end_of(left, names[table], ids))
            made = {}
            for key, reason in reasons(base, table, ids).items():
                at = len(reason) - 2
                made[(names[key[0]], *key[1:])] = reason if at < 0 else (*reason[:at], names[reason[at]], reason[-1])
            self.assertTrue(explains(left, names[table], ids, made))


class SideBySide(Case):
    """Two schemas in one that do not name one another."""

    def both(self, chance):
        """Two schemas with up to 5 tables and 10 references together, the second one with other names, and both in one."""
        while True:
            one, other = dense_schema(chance), dense_schema(chance)
            if len(one) + len(other) <= 5 and len(one.references()) + len(other.references()) <= 10:
                names = {name: {"a": "f", "b": "bb", "c": "ca", "d": "aa", "e": "g"}[name] for name in other.tables()}
                other = rebuilt(other, {}, names)
                tables = [*one.layout.values(), *other.layout.values()]
                chance.shuffle(tables)
                return one, other, Schema(*tables)

    def in_order(self, schema, tables):
        return [name for name in schema.tables() if name in tables]

    def test_worlds_conflicts_and_changes(self):
        chance, counts = random.Random(78), {}
        for _ in range(120):
            one, other, schema = self.both(chance)
            for part in (one, other):
                for start in part.tables():
                    self.assertEqual(self.in_order(schema, open_tables(part, start)), open_tables(schema, start))
                    self.assertEqual([found for found in conflicts(schema) if found[0] == start], conflicts(part, start=start))
                    some = [name for name in schema.tables() if chance.random() < 0.6]
                    inner = [name for name in some if name in part]
                    self.assertEqual(self.in_order(schema, can_go(part, start, inner)), can_go(schema, start, some))
            self.assertEqual(sorted(conflicts(one) + conflicts(other)), conflicts(schema))
            self.assertEqual(sorted(fewest_changes(one) + fewest_changes(other)), fewest_changes(schema))
            self.assertEqual(sorted(one.implied() + other.implied()), schema.implied())
            for part, rest in ((one, other), (other, one)):
                for reference in part.references()[:2]:
                    self.assertEqual(allowed(part, reference) if is_order_free(rest) else [], allowed(schema, reference))
            kind = (is_order_free(one), is_order_free(other))
            counts[kind] = counts.get(kind, 0) + 1
        self.assertEqual(4, len(counts), counts)

    def test_certificates_and_witnesses(self):
        chance = random.Random(79)
        for _ in range(100):
            one, other, schema = self.both(chance)
            if is_order_free(one) and is_order_free(other):
                made = {}
                for part in (one, other):
                    for start, stages in certificate(part).items():
                        made[start] = [schema.tables(), *[self.in_order(schema, stage) for stage in stages]]
                self.assertTrue(certifies(schema, made))
                self.assertTrue(certifies(schema, certificate(schema)))
            else:
                self.assertTrue(parts(schema, witness(schema)))
                part = one if not is_order_free(one) else other
                base, table, ids, first, second = witness(part)
                left = Database(schema)
                for entry in base.rows():
                    left.insert(*entry)
                for default in sorted({default for default in defaults_of(schema).values() if default is not None}):
                    for name in [one, other][part is one].tables():
                        columns = schema.layout[name].parts
                        left.insert(name, default, {column.name: default for column in columns})
                self.assertTrue(parts(schema, (left, table, ids, first, second)))

    def test_ends_and_reasons(self):
        chance = random.Random(80)
        done = 0
        while done < 40:
            one, other, _ = self.both(chance)
            one, other = eased(one, chance), eased(other, chance)
            schema = Schema(*other.layout.values(), *one.layout.values())
            self.assertTrue(is_order_free(schema))
            bases = [self.filled(part, chance) for part in (one, other)]
            left = Database(schema)
            for entry in bases[0].rows() + bases[1].rows():
                left.insert(*entry)
            table, ids = chance.choice(one.tables()), chance.sample([1, 2, 3], 1)
            end = end_of(bases[0], table, ids)
            if end is None:
                self.assertIsNone(end_of(left, table, ids))
                continue
            done += 1
            self.assertEqual(sorted(map(str, end.rows() + bases[1].rows())), sorted(map(str, end_of(left, table, ids).rows())))
            found = reasons(bases[0], table, ids)
            self.assertTrue(explains(left, table, ids, found))
            self.assertTrue(explains(bases[0], table, ids, reasons(left, table, ids)))

    def filled(self, schema, chance):
        """A valid database in which all tables have rows with the same ids."""
        fixed = sorted({default for default in defaults_of(schema).values() if default is not None})
        base = Database(schema)
        for table in schema.layout.values():
            for row in fixed + [1, 2, 3]:
                base.insert(table.name, row, {part.name: some_value(part, fixed, [1, 2, 3], chance) for part in table.parts})
        return base


class Implied(Case):
    """Implied references with `no_action` may be left out."""

    def pair(self, chance):
        """A schema with implied references that have `no_action`, and the schema without one, two or more of them."""
        while True:
            schema = dense_schema(chance)
            loose = schema.relaxed([link for link in schema.implied() if chance.random() < 0.7])
            bare, gone = loose, []
            while True:
                some = [link for link in bare.implied() if bare.action(link) == "no_action"]
                if not some or gone and chance.random() < 0.3:
                    break
                gone.append(chance.choice(some))
                bare = rebuilt(bare, {}, without=gone)
            if gone:
                return loose, bare, gone

    def test_worlds_conflicts_and_changes(self):
        chance, counts = random.Random(81), {True: 0, False: 0}
        for _ in range(120):
            schema, bare, gone = self.pair(chance)
            self.assertEqual(len(schema.references()) - len(gone), len(bare.references()))
            for start in schema.tables():
                self.assertEqual(open_tables(schema, start), open_tables(bare, start), (str(schema), gone))
                some = [name for name in schema.tables() if chance.random() < 0.5]
                self.assertEqual(can_go(schema, start, some), can_go(bare, start, some))
                self.assertEqual(schema.closure(some), bare.closure(some))
            self.assertEqual(conflicts(schema), conflicts(bare), (str(schema), gone))
            self.assertEqual(fewest_changes(schema), fewest_changes(bare))
            for reference in bare.references()[:3]:
                self.assertEqual(allowed(schema, reference), allowed(bare, reference))
            counts[is_order_free(schema)] += 1
        self.assertGreater(min(counts.values()), 15, counts)

    def test_certificates_and_witnesses(self):
        chance = random.Random(82)
        for _ in range(80):
            schema, bare, gone = self.pair(chance)
            if is_order_free(schema):
                self.assertTrue(certifies(schema, certificate(bare)))
                self.assertTrue(certifies(bare, certificate(schema)))
            else:
                base, table, ids, one, other = witness(schema)
                left = read_database(bare, str(base))
                self.assertTrue(left.is_valid())
                runs = [[event for event in run if event[:3] not in gone] for run in (one, other)]
                self.assertTrue(parts(bare, (left, table, ids, *runs)))

    def test_ends_and_reasons(self):
        chance, done, refused = random.Random(83), 0, 0
        while done < 40 or refused < 20:
            schema, bare, gone = self.pair(chance)
            schema = eased(schema, chance)
            bare = rebuilt(schema, {}, without=gone)
            base = SideBySide.filled(self, schema, chance)
            left = read_database(bare, str(base))
            table, ids = chance.choice(schema.tables()), chance.sample([1, 2, 3], 1)
            end = end_of(base, table, ids)
            if end is None:
                refused += 1
                self.assertIsNone(end_of(left, table, ids))
                continue
            done += 1
            self.assertEqual(str(end), str(end_of(left, table, ids)))
            self.assertTrue(explains(left, table, ids, reasons(base, table, ids)))
            self.assertTrue(explains(base, table, ids, reasons(left, table, ids)))


INTERFACE = {
    "schemas": "Column Table Schema read_schema", "databases": "Database read_database", "runs": "events_of replay ends",
    "worlds": "open_tables can_go", "conflicts": "conflicts is_order_free", "witnesses": "witness parts",
    "certificates": "certificate certifies", "changes": "fewest_changes allowed", "reasons": "end_of reasons explains",
    "console": "Console",
}


class Interface(Case):
    """Point 1: all that the overview names exists."""

    def test_each_name_is_defined_in_its_file(self):
        for module, names in INTERFACE.items():
            text = (FOLDER / (module + ".py")).read_text()
            for name in names.split():
                word = "class" if name[0].isupper() else "def"
                self.assertRegex(text, f"(?m)^{word} {name}\\(|^class {name}:")

    def test_what_the_overview_names(self):
        schema = shop()
        base, table, ids, one, other = witness(schema)
        self.assertNotEqual(replay(base, table, ids, one), replay(base, table, ids, other))
        free = schema.relaxed(fewest_changes(schema))
        self.assertTrue(certifies(free, certificate(free)))
        left = read_database(free, "row user 1\nrow user 2\nrow cart 7 owner=2 payer=2")
        self.assertEqual("row user 2\nrow cart 7 owner=2 payer=2", str(end_of(left, "user", [1])))
        self.assertEqual({("user", 1): ("deleted",)}, reasons(left, "user", [1]))
        self.assertEqual("0", Console(free).say("conflicts"))
        self.assertEqual(read_schema(str(free)), free)
