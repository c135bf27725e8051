"""The examples, as they stand in the document."""

import doctest
import pathlib
import unittest

from deedline.base import hashes, letters, patterns, replies, words
from deedline.client import server
from deedline.copy import group, nodes
from deedline.disk import disk, keeper
from deedline.disk import texts as disk_texts
from deedline.plain import grammar, lists, texts
from deedline.plain import maps as plain_maps
from deedline.plain import sets as plain_sets
from deedline.plain import sorts as plain_sorts
from deedline.shape import entries, maps, packs, sets, skips, sorts, tables
from deedline.store import core, room

EXAMPLES = r'''
>>> [number_reply(-7), texts_reply(("a", "b")), is_reply(("list", (("none",), ("list", ())))), is_reply(("number", True)), is_reply(("error", "kinds")), len(CODES)]
[('number', -7), ('list', (('text', 'a'), ('text', 'b'))), True, False, False, 15]
>>> [number_of("-0"), number_of("007"), number_of("-12"), number_of("9223372036854775808"), number_of("-9223372036854775808") == LEAST, is_key(""), is_text(""), is_command(("get", "a")), is_command(())]
[None, None, -12, None, True, False, True, True, False]
>>> [hash_of(""), hash_of("a"), hash_of("ab"), hash_of("ac"), hash_of("bB"), spot_of("a"), spot_of("b"), spot_of("c"), spot_of("d")]
[0, 97, 3299, 3300, 3300, 34304, 17920, 50688, 9728]
>>> table = Table()
>>> [[table.put(name, at) for at, name in enumerate("abcde")], table.counts(), table.get("a"), table.counts(), table.put("a", 7)]
[[True, True, True, True, True], (4, 8, 0, 5), 0, (4, 8, 1, 5), False]
>>> some = Members(Bounds(8, 64, 3, 32), ("10", "2", "-7"))
>>> [some.shape, some.row, some.plain, some.put("2"), some.take("10"), some.put("007"), some.shape, some.row, some.plain]
['row', (-7, 2, 10), ('-7', '10', '2'), False, True, True, 'table', None, ('-7', '007', '2')]
>>> [first_error(("get", "")), first_error(("add", "a", "1.5"))]
['syntax', 'number']
>>> do_text(("add", "n", "-7"), {})
(('number', -7), {'n': ('text', '-7', None)})
>>> do_list(("popr", "l", "2"), {"l": ("list", ("x", "y", "x"), 70)})
(('list', (('text', 'x'), ('text', 'y'))), {'l': ('list', ('x',), 70)})
>>> PAIR = {"a": ("set", ("x", "y"), None), "b": ("set", ("y", "z"), 50)}
>>> do_set(("sadd", "b", "z", "q", "q"), PAIR)
(('number', 1), {'a': ('set', ('x', 'y'), None), 'b': ('set', ('q', 'y', 'z'), 50)})
>>> BOX = {"m": ("map", (("b", "7"), ("c", "x")), 90)}
>>> do_map(("hset", "m", "b", "1", "a", "2", "a", "3"), BOX)
(('number', 1), {'m': ('map', (('a', '3'), ('b', '1'), ('c', 'x')), 90)})
>>> BOARD = {"z": ("sorted", ((1, "b"), (1, "d"), (5, "a")), 70)}
>>> do_sorted(("zadd", "z", "up", "changed", "0", "b", "2", "d", "3", "c"), BOARD)
(('number', 2), {'z': ('sorted', ((1, 'b'), (2, 'd'), (3, 'c'), (5, 'a')), 70)})
>>> [write_command(("set", "a b", "")), write_reply(("list", (("number", -3), ("none",), ("list", ()), ("error", "kind")))), read_reply("t3:k;:;"), write_reply(("done",))]
['c3:t3:set;t3:a b;t0:;;', 'l4:n-3;z;l0:;ekind;;', ('text', 'k;:'), 'k;']
>>> KEPT = {"a": ("text", "xx", 40), "b": ("text", "y", None), "c": ("text", "", 90), "d": ("text", "zzz", 20)}
>>> [run_out(KEPT, 40), order_out(KEPT, 30, "idle", {"a": 7, "b": 2}), room_deeds(KEPT, 30, 53, "idle", {"a": 7, "b": 2}, ("c",))]
[('d', 'a'), ('c', 'b', 'a'), (('gone', 'd'), ('out', 'b'))]
>>> disk = Disk()
>>> [disk.create("log"), disk.append("log", "ab"), disk.sync("log"), disk.append("log", "cd")]
[None, None, None, None]
>>> [row_text(("set", "a", "")), rows_of("3:set1:a0:;1:;;"), is_branch(((0, 0), (3, 12))), is_branch(((1, 0),))]
['3:set1:a0:;', (('set', 'a', ''), (';',)), True, False]
>>> disk = Disk()
>>> keeper = Keeper(disk, 1, rule="timed", span=10)
>>> [disk.read("log"), disk.done, keeper.call(("set", "a", "b"), 5), keeper.open_units, disk.done]
['deedline 1 0@0,1@0\n0 492 0 0;\n', 5, ('done',), 1, 6]
>>> server = Server(Store(now=10))
>>> [server.join("ann"), server.join("bob"), server.feed("ann", write_command(("waitl", "q", "0")) + write_command(("get", "k")), 10), server.feed("bob", "c3:t5:pushr", 11), server.waiting, server.held("ann")]
[None, None, (), (), ('ann',), (('get', 'k'),)]
>>> A, B = (((0, 0), (1, 5)), 8), (((0, 0),), 9)
>>> [is_stand((((0, 0), (1, 9)), 8)), shared_place(A, B), judged(A, B), judged((((0, 0),), 5), A), judged(A, (((0, 0),), 3)), cut(A, 4), is_later(A, B)]
[False, 5, ('parted', 5), ('behind', 5), ('ahead', 3), (((0, 0),), 4), True]
>>> group = Group(("a", "b", "c"), stretch=2)
>>> [group.join("b"), group.call("a", ("set", "k", "1"), 10), group.deliver("b", 9), group.keep("b"), group.acknowledge("b"), group.sure(1), group.sure(2), group.judge("b", "a"), group.judge("c", "a")]
[('part', 0, 0), ('done',), 1, 1, 1, 1, 0, ('alike', 1), ('behind', 0)]
'''


class Examples(unittest.TestCase):
    def examples(self, text, names, many):
        test = doctest.DocTestParser().get_doctest(text, names, "examples", None, 0)
        self.assertEqual(len(test.examples), many)
        told = []
        result = doctest.DocTestRunner(verbose=False).run(test, out=told.append)
        self.assertEqual(result.failed, 0, "".join(told))

    def test_the_document(self):
        names = {}
        for module in (hashes, patterns, replies, words, maps, packs, sets, skips, sorts, tables, entries, grammar, texts, lists,
                       plain_maps, plain_sets, plain_sorts, letters, room, core, disk, disk_texts, keeper, server, nodes, group):
            names.update(vars(module))
        self.examples(EXAMPLES, names, 31)

    def test_the_readme(self):
        readme = pathlib.Path(__file__).resolve().parent.parent / "README.md"
        self.examples(readme.read_text().replace("```", ""), {}, 43)
