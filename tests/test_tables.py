"""Stage 4: tables."""

from deedline.base.hashes import hash_of, spot_of
from deedline.disk.disk import Disk
from deedline.errors import InvalidNumber, InvalidOperation, InvalidText
from deedline.shape.maps import Fields
from deedline.shape.packs import Bounds, Pack
from deedline.shape.sets import Members
from deedline.shape.skips import Skips
from deedline.shape.sorts import Scores
from deedline.shape.tables import Table
from deedline.store.events import Listeners
from tests.helpers import Case, chance, not_integers, not_texts, values

SPREADS = (
    None,
    lambda name: 0,
    lambda name: 65535,
    lambda name: len(name),
    lambda name: hash_of(name) % 3,
    lambda name: hash_of(name) // 4096 * 4096,
    lambda name: 65535 - hash_of(name),
)


def spot(code):
    return int(format(code, "016b")[::-1], 2)


class PlainTable:
    """A table by the words of [4.1] to [4.3], without a thought of speed."""

    def __init__(self, spread):
        self.spread = spread or hash_of
        self.values = {}
        self.old = [[] for _ in range(4)]
        self.new = []
        self.moved = 0

    def step(self):
        if self.new:
            for name in self.old[self.moved]:
                self.new[self.spread(name) % len(self.new)].append(name)
            self.old[self.moved] = []
            self.moved += 1
            if self.moved == len(self.old):
                self.old, self.new, self.moved = self.new, [], 0

    def put(self, name, value):
        self.step()
        is_new = name not in self.values
        self.values[name] = value
        if is_new:
            buckets = self.new or self.old
            buckets[self.spread(name) % len(buckets)].append(name)
            if not self.new and len(self.old) < len(self.values) and len(self.old) < 65536:
                powers = [2 ** bits for bits in range(2, 17)]
                told = [power for power in powers if power > len(self.values)] or [65536]
                self.new = [[] for _ in range(told[0])]
        return is_new

    def get(self, name, other=None):
        self.step()
        return self.values.get(name, other)

    def take(self, name, other=None):
        self.step()
        if name not in self.values:
            return other
        for bucket in self.old + self.new:
            if name in bucket:
                bucket.remove(name)
        value = self.values.pop(name)
        many = len(self.values)
        if not self.new and len(self.old) > 4 and 8 * many <= len(self.old):
            powers = [2 ** bits for bits in range(2, 17)]
            self.new = [[] for _ in range([power for power in powers if power >= 2 * many][0])]
        return value

    def counts(self):
        return (len(self.old), len(self.new), self.moved, len(self.values))

    def rows(self):
        return (tuple(tuple(bucket) for bucket in self.old), tuple(tuple(bucket) for bucket in self.new))

    def names(self):
        return sorted(self.values, key=lambda name: (spot(self.spread(name)), name))


def state(table):
    return (table.counts(), table.rows(), table.all_items())


def filled(many, spread=None):
    table = Table(spread)
    for at in range(many):
        table.put(str(at), at)
    return table


class Ordinary(Case):
    def test_an_empty_table(self):
        table = Table()
        self.assertEqual(table.counts(), (4, 0, 0, 0))
        self.assertEqual(table.rows(), (((), (), (), ()), ()))
        self.assertEqual((table.all_names(), table.all_items(), len(table)), ((), (), 0))
        self.assertEqual(table.scan(0, 1), (0, ()))
        self.assertIsNone(table.get(""))
        self.assertIsNone(table.take(""))

    def test_put_get_and_take(self):
        table = Table()
        self.assertIs(table.put("a", 1), True)
        self.assertIs(table.put("a", 2), False)
        self.assertIs(table.put("", None), True)
        self.assertIs(table.put("a" * 200, 3), True)
        self.assertEqual((table.get("a"), table.get("a", 7), table.get("b"), table.get("b", 7)), (2, 2, None, 7))
        self.assertIsNone(table.get("", 7))
        self.assertIsNone(table.take("", 7))
        self.assertEqual((table.take("", 7), table.take("a", 7), table.take("a")), (7, 2, None))
        self.assertEqual(table.all_items(), (("a" * 200, 3),))

    def test_names_with_the_same_spot_ascend(self):
        table = Table(lambda name: 5 if name < "m" else 3)
        for name in "zaymbnc":
            table.put(name, name)
        names = sorted("abc") + sorted("mnyz")
        if spot(5) > spot(3):
            names = sorted("mnyz") + sorted("abc")
        self.assertEqual(table.all_names(), tuple(names))
        self.assertEqual(table.all_items(), tuple((name, name) for name in names))

    def test_a_spread_of_none_is_the_hash(self):
        table = filled(50)
        self.assertEqual(table.rows(), filled(50, hash_of).rows())
        names = [str(at) for at in range(50)]
        self.assertEqual(table.all_names(), tuple(sorted(names, key=lambda name: (spot_of(name), name))))

    def test_in_takes_every_value(self):
        table = Table()
        for name in ("a", "", "0"):
            table.put(name, 1)
        for value in values():
            self.assertIs(value in table, type(value) is str and value in ("a", "", "0"))
        self.assertEqual(table.counts(), (4, 0, 0, 3))

    def test_equality(self):
        one, other = filled(20), Table(lambda name: 0)
        for at in reversed(range(30)):
            other.put(str(at), at)
        self.assertIs(one == other, False)
        for at in range(20, 30):
            other.take(str(at))
        self.assertIs(one == other, True)
        self.assertIs(one != other, False)
        self.assertNotEqual(one.rows(), other.rows())
        other.put("3", 4)
        self.assertIs(one == other, False)
        self.assertIs(Table() == Table(), True)
        self.unlike(one)

    def test_equal_values_of_every_kind(self):
        for value in values():
            one, other = Table(), Table()
            one.put("a", value)
            other.put("a", value)
            self.assertIs(one == other, not isinstance(value, (Exception, Disk, Listeners)) or one.get("a") == other.get("a"))
            self.assertIs(one == Table(), False)
            other.put("a", [value])
            self.assertIs(one == other, False)


class Moves(Case):
    def test_a_growing_move_step_by_step(self):
        table = Table(lambda name: int(name))
        for at in range(4):
            table.put(str(at), at)
        self.assertEqual(table.counts(), (4, 0, 0, 4))
        table.put("4", 4)
        self.assertEqual(table.counts(), (4, 8, 0, 5))
        self.assertEqual(table.rows(), ((("0", "4"), ("1",), ("2",), ("3",)), ((),) * 8))
        table.get("9")
        self.assertEqual(table.rows(), (((), ("1",), ("2",), ("3",)), (("0",), (), (), (), ("4",), (), (), ())))
        table.put("9", 9)
        self.assertEqual(table.rows(), (((), (), ("2",), ("3",)), (("0",), ("1", "9"), (), (), ("4",), (), (), ())))
        table.take("3")
        self.assertEqual(table.rows(), (((), (), (), ()), (("0",), ("1", "9"), ("2",), (), ("4",), (), (), ())))
        self.assertEqual(table.counts(), (4, 8, 3, 5))
        table.take("nothing")
        self.assertEqual(table.rows(), ((("0",), ("1", "9"), ("2",), (), ("4",), (), (), ()), ()))
        self.assertEqual(table.counts(), (8, 0, 0, 5))

    def test_only_a_new_name_lets_a_table_grow(self):
        table = filled(5)
        for at in range(5, 8):
            table.put(str(at), at)
        self.assertEqual(table.counts(), (4, 8, 3, 8))
        table.put("8", 8)
        self.assertEqual(table.counts(), (8, 16, 0, 9))
        table = filled(8)
        self.assertEqual(table.counts(), (4, 8, 3, 8))
        table.put("7", 0)
        table.put("7", 1)
        self.assertEqual(table.counts(), (8, 0, 0, 8))

    def test_more_names_than_buckets_without_a_move(self):
        table = filled(40)
        for at in range(32):
            table.take(str(at))
        self.assertEqual(table.counts(), (64, 16, 0, 8))
        for at in range(63):
            table.put("x%d" % at, at)
        self.assertEqual(table.counts(), (64, 16, 63, 71))
        table.get("nothing")
        self.assertEqual(table.counts(), (16, 0, 0, 71))
        table.put("x0", 1)
        table.get("x0")
        table.take("nothing")
        self.assertEqual(table.counts(), (16, 0, 0, 71))
        table.take("x1")
        self.assertEqual(table.counts(), (16, 0, 0, 70))
        table.put("new", 1)
        self.assertEqual(table.counts(), (16, 128, 0, 71))

    def test_to_how_many_buckets_a_move_leads(self):
        for many, more in ((62, 64), (63, 128), (64, 128), (30, 32), (31, 64), (16, 32)):
            table = filled(40)
            for at in range(32):
                table.take(str(at))
            for at in range(many - 8):
                table.put("x%d" % at, at)
            while table.counts()[1]:
                table.get("nothing")
            self.assertEqual(table.counts(), (16, 0, 0, many))
            table.put("new", 1)
            self.assertEqual(table.counts(), (16, more, 0, many + 1))
        for many, fewer in ((17, 32), (10, 32), (9, 16), (6, 16), (5, 8), (4, 8), (3, 4), (2, 4)):
            table = filled(65)
            for at in range(65 - many):
                table.take(str(at))
            while table.counts()[1]:
                table.get("nothing")
            self.assertEqual(table.counts(), (128, 0, 0, many))
            table.take("64")
            self.assertEqual(table.counts(), (128, fewer, 0, many - 1))

    def test_only_a_take_of_a_name_lets_a_table_shrink(self):
        table = filled(40)
        while table.counts()[1]:
            table.get("0")
        self.assertEqual(table.counts(), (64, 0, 0, 40))
        for at in range(31):
            table.take(str(at))
        self.assertEqual(table.counts(), (64, 0, 0, 9))
        table.take("0")
        table.get("39")
        self.assertEqual(table.counts(), (64, 0, 0, 9))
        table.take("31")
        self.assertEqual(table.counts(), (64, 16, 0, 8))
        table.take("32")
        self.assertEqual(table.counts(), (64, 16, 1, 7))

    def test_a_table_shrinks_to_four_buckets(self):
        table = filled(40)
        for at in range(40):
            table.take(str(at))
        for _ in range(200):
            table.get("")
        table.put("a", 1)
        table.take("a")
        for _ in range(200):
            table.get("")
        self.assertEqual(table.counts(), (4, 0, 0, 0))
        table.put("a", 1)
        table.take("a")
        self.assertEqual(table.counts(), (4, 0, 0, 0))

    def test_scans_and_looks_move_nothing(self):
        table = filled(5)
        before = state(table)
        table.scan(0, 1)
        table.all_names()
        table.all_items()
        table.rows()
        self.assertIs("0" in table, True)
        self.assertEqual((len(table), table == table, state(table)), (5, True, before))

    def test_the_most_buckets(self):
        table = Table(lambda name: int(name) % 65536)
        at = 0
        while table.counts()[:2] != (32768, 65536):
            table.put(str(at), at)
            at += 1
        self.assertEqual(table.counts(), (32768, 65536, 0, 32769))
        while at < 65536 + 10:
            table.put(str(at), at)
            at += 1
        self.assertEqual(table.counts(), (65536, 0, 0, 65546))
        self.assertEqual(table.rows()[0][7], ("7", "65543"))
        for name in range(65546 - 8193):
            table.take(str(name))
        self.assertEqual(table.counts(), (65536, 0, 0, 8193))
        table.take("65545")
        self.assertEqual(table.counts(), (65536, 16384, 0, 8192))

    def test_long_runs_beside_a_plain_table(self):
        for seed, spread in enumerate(SPREADS):
            pick = chance(seed)
            table, plain = Table(spread), PlainTable(spread)
            for turn in range(8):
                names = [str(at) for at in range(pick.choice((3, 8, 40, 90)))]
                words = pick.choices(("put", "get", "take"), weights=(6, 1, 1) if turn % 2 == 0 else (1, 1, 6), k=200)
                for word in words:
                    name = pick.choice(names if pick.random() < 0.7 else list(plain.values) or names)
                    value = pick.randrange(5)
                    told = [getattr(one, word)(name, value) for one in (table, plain)]
                    self.assertEqual(told[0], told[1])
                    self.assertIs(type(told[0]), type(told[1]))
                    self.assertEqual(table.counts(), plain.counts())
                    self.assertEqual(table.rows(), plain.rows())
                    self.assertEqual(table.all_names(), tuple(plain.names()))
                    self.assertEqual(table.all_items(), tuple((name, plain.values[name]) for name in plain.names()))
                    self.assertEqual(len(table), len(plain.values))


class Scans(Case):
    def test_counts_and_cursors(self):
        table = Table(lambda name: spot(int(name)))
        for name in ("10", "20", "30", "65535", "0"):
            table.put(name, None)
        self.assertEqual(table.scan(0, 1), (1, ("0",)))
        self.assertEqual(table.scan(1, 1), (11, ("10",)))
        self.assertEqual(table.scan(10, 2), (21, ("10", "20")))
        self.assertEqual(table.scan(11, 2), (31, ("20", "30")))
        self.assertEqual(table.scan(31, 1), (0, ("65535",)))
        self.assertEqual(table.scan(65535, 1000), (0, ("65535",)))
        self.assertEqual(table.scan(0, 5), (0, ("0", "10", "20", "30", "65535")))
        self.assertEqual(table.scan(0, 1000), (0, ("0", "10", "20", "30", "65535")))
        table.take("65535")
        self.assertEqual(table.scan(31, 1), (0, ()))
        self.assertEqual(table.scan(21, 1), (0, ("30",)))

    def test_spots_side_by_side(self):
        table = Table(lambda name: spot(int(name)))
        for at in range(65526, 65536):
            table.put(str(at), None)
        for count in (1, 2, 3, 7):
            cursor, told = 0, []
            while True:
                cursor, names = table.scan(cursor, count)
                told.append(names)
                if cursor == 0:
                    break
                self.assertEqual((len(names), cursor), (count, int(names[-1]) + 1))
            self.assertEqual(sum(told, ()), tuple(str(at) for at in range(65526, 65536)))

    def test_names_with_the_spot_of_the_last_one_are_told_too(self):
        table = Table(lambda name: spot(100 if name < "n" else 200))
        for name in "ezbxad":
            table.put(name, None)
        for count in (1, 2, 3, 4):
            self.assertEqual(table.scan(0, count), (101, ("a", "b", "d", "e")))
            self.assertEqual(table.scan(101, count), (0, ("x", "z")))
        self.assertEqual(table.scan(0, 5), (0, ("a", "b", "d", "e", "x", "z")))

    def test_a_scan_hangs_on_names_cursor_and_count_alone(self):
        pick = chance(11)
        for spread in SPREADS:
            names = [str(at) for at in range(60)]
            tables = []
            for _ in range(3):
                pick.shuffle(names)
                table = Table(spread)
                for name in names + [str(at) for at in range(60, 60 + 90 * len(tables))]:
                    table.put(name, pick.randrange(9))
                for at in range(60, 60 + 90 * len(tables)):
                    table.take(str(at))
                tables.append(table)
            for _ in range(60):
                cursor, count = pick.choice((0, pick.randrange(65536))), pick.randrange(1, 20)
                self.assertEqual(len({table.scan(cursor, count) for table in tables}), 1)

    def test_scans_with_changes_between_their_calls(self):
        for seed in range(70):
            pick = chance(seed)
            table = Table(SPREADS[seed % len(SPREADS)])
            names = [str(at) for at in range(pick.choice((5, 30, 120)))]
            for name in pick.sample(names, len(names) // 2):
                table.put(name, name)
            told, always, spots = [], set(names), []
            cursor = 0
            while True:
                cursor, some = table.scan(cursor, pick.randrange(1, 6))
                there = set(table.all_names())
                always &= there
                told += some
                self.assertTrue(there.issuperset(some))
                spots += [spot((SPREADS[seed % len(SPREADS)] or hash_of)(name)) for name in some]
                if cursor == 0:
                    break
                for _ in range(pick.randrange(12)):
                    name = pick.choice(names)
                    if pick.random() < 0.5:
                        table.put(name, name)
                    else:
                        table.take(name)
            self.assertEqual(len(told), len(set(told)))
            self.assertTrue(always.issubset(told))
            self.assertEqual(spots, sorted(spots))

    def test_a_name_that_was_taken_and_put_again_is_told_once(self):
        table = filled(30)
        cursor, told = table.scan(0, 3)
        while cursor:
            for name in told:
                table.take(name)
                table.put(name, None)
            cursor, some = table.scan(cursor, 3)
            told += some
        self.assertEqual(sorted(told), sorted(str(at) for at in range(30)))


class Refused(Case):
    def test_nothing_has_changed(self):
        for many in (0, 5, 7):
            table = filled(many)
            before = state(table)
            for value in not_texts():
                self.refused(InvalidText, value, table.put, value, 1)
                self.refused(InvalidText, value, table.get, value)
                self.refused(InvalidText, value, table.get, value, 1)
                self.refused(InvalidText, value, table.take, value)
                self.assertEqual(table.counts(), before[0])
            for value in not_integers(0, 65535):
                self.refused(InvalidNumber, value, table.scan, value, 1)
                self.refused(InvalidNumber, value, table.scan, value, None)
            for value in not_integers(1, 1000):
                self.refused(InvalidNumber, value, table.scan, 0, value)
                self.refused(InvalidNumber, value, table.scan, 65535, value)
            self.assertEqual(state(table), before)

    def test_what_is_no_function(self):
        for value in (True, 0, 5, "a", (), [hash_of], {"a": 1}, Table()):
            self.refused(InvalidOperation, None, Table, value)


class NoAccess(Case):
    def test_lists_and_dicts(self):
        table = Table()
        row, inner, book = [1], {"k": [1]}, ([1], {"a": ([],)})
        table.put("a", row)
        table.put("b", inner)
        table.put("c", book)
        row.append(2)
        inner["k"].append(2)
        book[0].append(2)
        book[1]["a"][0].append(2)
        for _ in range(2):
            found = dict(table.all_items())
            self.assertEqual(found, {"a": [1], "b": {"k": [1]}, "c": ([1], {"a": ([],)})})
            self.assertEqual([table.get(name) for name in "abc"], [found[name] for name in "abc"])
            for name in "abc":
                for one in (found[name], table.get(name)):
                    if name == "a":
                        one.append(3)
                    elif name == "b":
                        one["k"].append(3)
                        one["m"] = 1
                    else:
                        one[0].append(3)
                        one[1]["a"][0].append(3)

    def test_objects_of_this_package(self):
        bounds = Bounds(2, 9, 2, 9)
        inner = filled(6)
        things = [inner, Pack(bounds, ("a", "b", "c")), Members(bounds, ("1", "2")), Members(bounds, ("x",)),
                  Skips(((1, "a"), (2, "b"))), Scores(bounds, ((1, "a"),)), Scores(bounds, ((1, "a"), (2, "b"), (3, "c"))),
                  Fields(bounds, (("b", "1"), ("a", "1"))), Fields(bounds, (("b", "1"), ("a", "1"), ("c", "1")))]

        def change(thing):
            if isinstance(thing, Pack):
                thing.take(0)
            elif isinstance(thing, (Table, Fields)):
                thing.put("new", "new")
            elif isinstance(thing, Members):
                thing.put("new")
            else:
                thing.put("new", 9)

        def looks(thing):
            if isinstance(thing, Table):
                return state(thing)
            words = ("bounds", "nodes", "shape", "row", "figures", "levels", "plain")
            return [getattr(thing, word) for word in words if hasattr(thing, word)]

        for thing in things:
            before = looks(thing)
            table = Table()
            table.put("a", [thing])
            change(thing)
            self.assertNotEqual(looks(thing), before)
            for found in (table.get("a"), dict(table.all_items())["a"], table.twin().get("a")):
                self.assertEqual(looks(found[0]), before)
                change(found[0])
            self.assertEqual(looks(table.get("a")[0]), before)

    def test_a_twin_goes_its_own_way(self):
        table = filled(6)
        before = state(table)
        twin = table.twin()
        self.assertEqual(state(twin), before)
        for at in range(50):
            twin.put("x%d" % at, at)
        twin.take("0")
        self.assertEqual(state(table), before)
        other = table.twin()
        for one in (table, other):
            for at in range(40):
                one.put("y%d" % at, at)
        self.assertEqual(state(table), state(other))

    def test_no_argument_is_changed(self):
        value = [1, {"a": [2]}]
        table = Table()
        table.put("a", value)
        table.get("a").append(1)
        self.assertEqual(table.get("b", value), value)
        self.assertEqual(value, [1, {"a": [2]}])
