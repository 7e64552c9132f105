"""Certificates [14], and what point 3 says of them."""

import copy
import itertools
import random

from accounts import clashes, eased, is_certificate
from keyactions.certificates import certificate, certifies
from keyactions.conflicts import conflicts, is_order_free
from keyactions.console import Console
from keyactions.databases import Database
from keyactions.errors import NotFree
from keyactions.schemas import Column, Table, read_schema
from keyactions.worlds import open_tables
from readings import Reading, dense_schema, sets_of
from samples import MANY, Case, deep, odd_numbers, odd_values, same, shop, stocked
from test_schemas import small_schemas

STAGES = {"user": [["user", "cart"]], "cart": [["user", "cart"], ["cart"]]}

# For the start `a` there are five stages until they stay the same, and four are needed.
LONG = "\n".join([
    "table a", "table b", "column x a:cascade c:no_action", "column y a:restrict",
    "table c a:no_action", "column x a:cascade d:no_action", "table d a:no_action", "column x a:cascade e:no_action",
    "table e a:no_action",
])
LONG_STAGES = [list("abcde"), list("abcd"), list("abc"), list("ab"), list("a")]


def free():
    """The order-free schema of the document's examples."""
    return shop().changed(("cart", "payer", "user"), "set_null")


def nested(value):
    """Values in which a value stands somewhere."""
    return [[value], (value,), {"user": value}, {"user": [value], "cart": [value]}, [[value]], {"a": [value, value]}]


class Returned(Case):
    def check(self, schema):
        """The certificate is one, or there is none; tells the greatest number of its stages."""
        found = conflicts(schema)
        if found:
            self.fails(NotFree, {"conflict": found[0]}, certificate, schema)
            return 0
        made = certificate(schema)
        self.assertTrue(is_certificate(schema, made), (str(schema), made))
        self.assertIs(True, certifies(schema, made))
        return max(len(stages) for stages in made.values())

    def test_the_shop(self):
        self.assertEqual(2, self.check(free()))
        self.assertTrue(certifies(free(), certificate(schema=free())))
        conflict = ("user", "row", ("cart", "owner", "user"), ("cart", "payer", "user"))
        self.fails(NotFree, {"conflict": conflict}, certificate, shop())

    def test_the_first_conflict(self):
        text = "table {0}\ntable {1}\ncolumn x {0}:cascade\ncolumn y {0}:restrict\ncolumn z null {0}:restrict {1}:restrict"
        for names in (("a", "b"), ("b", "a")):
            schema = read_schema(text.format(*names))
            self.assertGreater(len(conflicts(schema)), 1)
            self.fails(NotFree, {"conflict": min(conflicts(schema))}, certificate, schema)

    def test_one_table_alone(self):
        self.assertEqual({"a": [["a"]]}, certificate(read_schema("table a")))

    def test_many_stages(self):
        self.assertGreaterEqual(self.check(read_schema(LONG)), 4)

    def test_small_schemas(self):
        found = [self.check(schema) for schema in small_schemas()]
        self.assertIn(0, found)
        self.assertGreater(max(found), 1)

    def test_random_schemas(self):
        chance = random.Random(31)
        found = [self.check(dense_schema(chance)) for _ in range(400)]
        self.assertEqual({0, 1, 2, 3}, {min(3, count) for count in found})
        for _ in range(150):
            self.assertGreater(self.check(eased(dense_schema(chance), chance)), 0)

    def test_the_largest_schemas(self):
        chance, big = random.Random(32), 0
        while big < 12:
            schema = eased(dense_schema(chance), chance)
            if len(schema) == 5 and len(schema.references()) == 10:
                big += 1
                self.assertGreater(self.check(schema), 0)

    def test_new_each_time(self):
        schema = read_schema(LONG)
        made, again = certificate(schema), certificate(schema)
        self.assertTrue(same(made, again))
        for stages in made.values():
            for stage in stages:
                stage.append("more")
            stages.append([])
        made["more"] = []
        self.assertTrue(certifies(schema, again))
        self.assertTrue(same(again, certificate(schema)))
        self.assertEqual(read_schema(LONG), schema)

    def test_no_list_stands_in_it_twice(self):
        made = certificate(read_schema(LONG))
        lists = [stage for stages in made.values() for stage in stages] + list(made.values())
        self.assertEqual(len(lists), len({id(one) for one in lists}))


class Accepted(Case):
    def yes(self, schema, value):
        self.assertTrue(is_certificate(schema, value), value)
        self.assertIs(True, certifies(schema, value))

    def no(self, schema, value):
        self.assertFalse(is_certificate(schema, value), value)
        self.assertIs(False, certifies(schema, value))

    def test_the_document(self):
        self.yes(free(), STAGES)
        self.assertTrue(certifies(value=STAGES, schema=free()))

    def test_the_starts_in_any_order(self):
        schema = read_schema(LONG)
        made = certificate(schema)
        for order in itertools.permutations(made):
            self.yes(schema, {start: made[start] for start in order})

    def test_further_stages_and_further_tables(self):
        both, cart = ["user", "cart"], ["cart"]
        for stages in ([both], [both, both], [both, both, cart], [both, cart], [both, cart, cart], [both, cart, both],
                       [both, cart, both, cart], [both] * 40 + [cart] * 40):
            self.yes(free(), {**STAGES, "cart": stages})
        for stages in ([both], [both, both], [both] * 50):
            self.yes(free(), {**STAGES, "user": stages})
        self.no(free(), {**STAGES, "user": [both, cart]})
        self.no(free(), {**STAGES, "user": [both, ["user"]]})
        self.no(free(), {**STAGES, "cart": [both, ["user"]]})
        self.no(free(), {**STAGES, "cart": [both, []]})

    def test_as_few_stages_as_possible(self):
        schema = read_schema(LONG)
        made = {start: [list("abcde"), *([open_tables(schema, start)] if start != "a" else [])] for start in "abcde"}
        for count in range(1, 6):
            value = {**made, "a": LONG_STAGES[:count]}
            self.assertEqual(count >= 4, certifies(schema, value), count)
            self.assertEqual(count >= 4, is_certificate(schema, value), count)
        for at in range(1, 4):
            # A stage that is left out is missed by the next one.
            self.no(schema, {**made, "a": LONG_STAGES[:at] + LONG_STAGES[at + 1:]})
        self.yes(schema, {**made, "a": [*LONG_STAGES[:2], list("abcd"), *LONG_STAGES[2:]]})
        # A further table brings others with it.
        self.no(schema, {**made, "a": [list("abcde"), list("abcd"), list("abce"), list("abc"), list("ab")]})
        self.yes(schema, {**made, "a": [list(stage) for stage in ("abcde", "abcd", "abce", "abd", "ac", "ab")]})
        self.yes(schema, {**made, "a": [*LONG_STAGES, list("ab"), list("a"), list("a")]})
        self.yes(schema, {**made, "a": [*LONG_STAGES, *[list(stage) for stage in ("ae", "ad", "ac", "ab", "a")]]})
        self.no(schema, {**made, "a": [*LONG_STAGES, list("ae"), list("a")]})
        self.no(schema, {**made, "a": [*LONG_STAGES, list("abc")]})

    def test_all_chains_of_stages_of_small_schemas(self):
        texts = ["table a\ntable b a:no_action\ntable c\ncolumn x a:cascade b:no_action\ncolumn y a:restrict",
                 "table c b:cascade\ntable b c:restrict\ntable a\ncolumn x c:cascade"]
        for text in texts:
            schema = read_schema(text)
            self.assertTrue(is_order_free(schema))
            made, names = certificate(schema), schema.tables()
            stages = [[name for name in names if name in some] for some in sets_of(tuple(names))]
            for start in names:
                accepted = 0
                for one, two, three in itertools.product(stages, [None, *stages], [None, *stages]):
                    chain = [stage for stage in (one, two, three) if stage is not None]
                    value = {**made, start: chain}
                    expected = is_certificate(schema, value)
                    self.assertIs(expected, certifies(schema, value), value)
                    accepted += expected
                self.assertGreater(accepted, 5)

    def test_random_chains_of_random_schemas(self):
        chance, counts = random.Random(33), {True: 0, False: 0}
        for _ in range(250):
            schema = eased(dense_schema(chance), chance)
            value = {start: self.some_chain(schema, start, chance) for start in schema.tables()}
            expected = is_certificate(schema, value)
            self.assertIs(expected, certifies(schema, value), (str(schema), value))
            counts[expected] += 1
        self.assertGreater(min(counts.values()), 20, counts)

    def some_chain(self, schema, start, chance):
        """Stages that nearly always follow one another."""
        reading, names = Reading(schema, start), schema.tables()
        chain = [names]
        for _ in range(chance.randint(0, 4)):
            least = reading.least(frozenset(chain[-1]))
            chain.append([name for name in names if (name in least) != (chance.random() < 0.07)])
        return chain

    def test_none_for_other_schemas(self):
        chance, tried = random.Random(34), 0
        while tried < 60:
            schema = dense_schema(chance)
            if is_order_free(schema):
                continue
            tried += 1
            for _ in range(6):
                value = {start: self.some_chain(schema, start, chance) for start in schema.tables()}
                self.assertIs(False, certifies(schema, value))
            least = {start: [schema.tables(), *[[start]] * 3] for start in schema.tables()}
            self.assertIs(False, certifies(schema, least))

    def test_none_for_the_shop(self):
        lists = [["user", "cart"], ["cart"], ["user"], []]
        chains = [list(chain) for count in range(4) for chain in itertools.product(lists, repeat=count)]
        for one, other in itertools.product(chains, repeat=2):
            self.assertIs(False, certifies(shop(), {"user": one, "cart": other}))

    def test_more_open_tables_never_mean_fewer_conflicts(self):
        chance, more = random.Random(35), 0
        for _ in range(120):
            schema = dense_schema(chance)
            for start in schema.tables():
                grounds = [name for name in schema.tables() if chance.random() < 0.6]
                wider = [name for name in schema.tables() if name in grounds or chance.random() < 0.4]
                one, other = clashes(schema, start, grounds), clashes(schema, start, wider)
                self.assertLessEqual(set(one), set(other))
                more += len(one) < len(other)
        self.assertGreater(more, 5)


class Spoilt(Case):
    def no(self, value, schema=None):
        schema = free() if schema is None else schema
        self.assertIs(False, certifies(schema, value), value)
        self.assertFalse(is_certificate(schema, value), value)

    def test_starts(self):
        for start in STAGES:
            self.no({name: STAGES[name] for name in STAGES if name != start})
            self.no({**STAGES, start.upper(): STAGES[start]})
            self.no({start + "s" if name == start else name: STAGES[name] for name in STAGES})
        self.no({})
        self.no({**STAGES, "more": [["user", "cart"]]})
        self.no({**STAGES, "id": []})
        for key in (None, True, 0, 1, "", (), ("user",), Console(shop()), stocked().trial(), 10 ** 50):
            self.no({**STAGES, key: [["user", "cart"]]})
            self.no({key: [["user", "cart"]]})
            for start in STAGES:
                self.no({key if name == start else name: STAGES[name] for name in STAGES})

    def test_stages(self):
        both = ["user", "cart"]
        wrong = [
            [], [[]], [["user"]], [["cart"]], [["cart"], both], [[], both], [["cart", "user"]], [both, ["cart", "user"]],
            [["user", "user", "cart"]], [["user", "cart", "cart"]], [["user", "cart", "user"]], [both + both],
            [both, ["user", "user", "cart"]], [both, ["user", "cart", "cart"]], [["user", "cart", "more"]],
            [both, ["user", "cart", "more"]], [["user", "cart", "id"]], [both, ["user", "cart", "owner"]],
            [["User", "cart"]], [["user", "cart", ""]], [["user", "cart", None]], [both, []], [both, both, []],
            both, ["usercart"], ["user", ["cart"]], [both, "user"], [both, None], [None, both], [both, [["user"], "cart"]],
            [both, [both]], [[both]], [both, ["user", ["cart"]]], [both, [0, 1]], [both, [True]], [["user", True]],
        ]
        for stages in wrong:
            for start in STAGES:
                self.no({**STAGES, start: stages})

    def test_tuples_and_other_kinds(self):
        both = ["user", "cart"]
        for stages in (tuple([both]), [tuple(both)], (tuple(both),), [both, tuple(both)], {0: both}, [{0: "user", 1: "cart"}],
                       [{"user": True, "cart": True}], "user", ["user"], 1, True, None, [1], [None], [both, 1]):
            for start in STAGES:
                self.no({**STAGES, start: stages})
        for value in (list(STAGES.items()), tuple(STAGES.items()), [STAGES], (STAGES,), list(STAGES.values()), list(STAGES),
                      str(STAGES), {start: {0: stages} for start, stages in STAGES.items()},
                      {tuple([start]): stages for start, stages in STAGES.items()}):
            self.no(value)

    def test_values_of_every_kind(self):
        long = read_schema(LONG)
        made = certificate(long)
        for value in odd_values() + odd_numbers() + [deep(12), [deep(11)] * 90, "a" * 20000, STAGES, certificate(free())]:
            for schema in (shop(), read_schema(MANY), long):
                self.assertIs(False, certifies(schema, value))
            for within in nested(value):
                self.no(within)
            for start in ("a", "d"):
                self.no({**made, start: value} if value != made[start] else None, long)
                self.no({**made, start: [value]}, long)
                self.no({**made, start: [*made[start], value]}, long)
                self.no({**made, start: [value, *made[start]]}, long)
                self.no({**made, start: [*made[start], [value]]}, long)
                self.no({**made, start: [*made[start], [*made[start][-1], value]]}, long)
                self.no({**made, start: [[value, *made[start][0]], *made[start][1:]]}, long)

    def test_objects_of_the_package(self):
        for value in (Column("x"), Table("user"), shop(), stocked(), Database(free()), stocked().trial(), Console(shop()),
                      NotFree(None)):
            self.assertIs(False, certifies(free(), value))
            for start in STAGES:
                for stages in (value, [value], [["user", "cart"], value], [["user", value]], [["user", "cart", value]]):
                    self.assertIs(False, certifies(free(), {**STAGES, start: stages}))

    def test_another_schema(self):
        order = read_schema("\n".join([*str(free()).split("\n")[1:], "table user"]))
        self.no(STAGES, order)
        self.assertTrue(certifies(order, {"user": [["cart", "user"]], "cart": [["cart", "user"], ["cart"]]}))
        self.no(STAGES, shop())
        self.no(STAGES, read_schema(str(free()) + "\ntable more"))
        self.no(STAGES, read_schema("table user"))

    def test_a_certificate_with_one_part_changed(self):
        chance, counts = random.Random(36), {True: 0, False: 0}
        for _ in range(150):
            schema = eased(dense_schema(chance), chance)
            value = copy.deepcopy(certificate(schema))
            stages = value[chance.choice(sorted(value))]
            stage = chance.choice(stages)
            way = chance.randint(0, 5)
            if way == 0 and stage:
                del stage[chance.randrange(len(stage))]
            elif way == 1:
                stage.insert(chance.randint(0, len(stage)), chance.choice(schema.tables()))
            elif way == 2:
                stage.reverse()
            elif way == 3:
                stages.remove(stage)
            elif way == 4:
                stages.append([name for name in schema.tables() if chance.random() < 0.7])
            else:
                stages.reverse()
            expected = is_certificate(schema, value)
            self.assertIs(expected, certifies(schema, value), (str(schema), value))
            counts[expected] += 1
        self.assertGreater(min(counts.values()), 20, counts)

    def test_nothing_changes(self):
        schema = free()
        for value in (STAGES, {**STAGES, "user": [["cart", "user"]]}, {"user": [[], 1]}, [STAGES], certificate(schema)):
            before = copy.deepcopy(value)
            certifies(schema, value)
            self.assertTrue(same(before, value))
        self.assertEqual(free(), schema)

    def test_a_large_value(self):
        both = ["user", "cart"]
        self.assertTrue(certifies(free(), {**STAGES, "cart": [both] * 700 + [["cart"]] * 300}))
        self.no({**STAGES, "cart": [both] * 900 + [["user"]]})
        self.no({**STAGES, "cart": [both * 1400]})
