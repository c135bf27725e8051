"""The head of the interface: each name stands in the module, and in the class, under which it is listed."""

import importlib
import inspect
import unittest

FUNCTIONS = {
    "base.replies": "is_reply text_reply number_reply list_reply error_reply texts_reply",
    "base.words": "is_text is_key is_time is_whole is_command number_of text_of clipped",
    "base.patterns": "parts_of does_fit fitting fixed_start",
    "base.hashes": "hash_of spot_of sum_of reversed_bits bucket_spots",
    "shape.packs": "is_nodes",
    "shape.sets": "united shared parted",
    "shape.skips": "height_of is_levels",
    "shape.entries": "is_plain is_entry is_store shaped is_shaped kind_of plain_of shape_of value_size entry_size store_size",
    "plain.grammar": "does_write first_error keys_of options_of",
    "plain.texts": "do_text",
    "plain.lists": "do_list",
    "plain.sets": "do_set",
    "plain.maps": "do_map",
    "plain.sorts": "do_sorted",
    "plain.keys": "do_keys",
    "plain.store": "is_deed is_unit is_line has_run_out shown do do_block resolved apply changed_keys replay",
    "base.letters": "write_command write_reply read_command read_reply",
    "store.room": "run_out sweep_deeds order_out room_deeds",
    "store.events": "events_of unit_events",
    "disk.texts": "is_branch row_text rows_of block_text read_blocks snapshot_text read_snapshot log_text read_log",
    "copy.nodes": "is_stand cut shared_place judged is_later",
    "text.lines": "words_of line_of show read_shown",
}
CLASSES = {
    "errors": {name: "" for name in (
        "DeedError InvalidText InvalidCommand InvalidStore InvalidOperation ParseError InvalidTime InvalidNumber "
        "TooMany UnknownName BadLetters PowerLost Refused").split()},
    "shape.tables": {"Table": "put get take scan all_names all_items counts rows __contains__ __len__ __eq__"},
    "shape.packs": {
        "Bounds": "texts signs members wide usual __eq__",
        "Pack": "put take change keep part at places_of bounds nodes plain __len__ __eq__",
    },
    "shape.sets": {"Members": "put take has bounds shape row figures plain anew __len__ __eq__"},
    "shape.skips": {"Skips": "put take score_of place_of steps_of at part below plain levels __len__ __eq__"},
    "shape.sorts": {"Scores": "put take score_of place_of at part below bounds shape levels plain anew __len__ __eq__"},
    "base.letters": {"Reader": "feed made kind total pending bad"},
    "store.room": {"Marks": "use forget mark_of table twin __len__"},
    "store.core": {"Store": (
        "__init__ call block sweep apply bounds bound policy begin units place now last size kept shown entry shape_at marks snapshot loaded "
        "units_from changed twin __len__ __contains__ __iter__ __eq__")},
    "store.events": {"Listeners": "listen match events unlisten unmatch unevents publish tell replaced taken close wants names __len__"},
    "disk.disk": {"Disk": (
        "__init__ create append sync rename remove sync_names read unsynced __contains__ names name_steps done left names_after after")},
    "disk.keeper": {"Keeper": (
        "__init__ call act sync close start go_on finish stop place last branch open_units is_rewriting kept shown")},
    "client.blocks": {"Session": "__init__ call touched queued is_broken watched leave"},
    "client.waits": {"Waits": "__init__ ask end serve cancel names command until __len__ __contains__"},
    "client.server": {"Server": "__init__ join leave feed tick store names waiting held"},
    "copy.nodes": {"Node": (
        "__init__ name stand place kept_place kept_stand stretch leads line_time now entries twin __eq__ call apply load keep lose_power "
        "follow lead")},
    "copy.group": {"Group": (
        "__init__ names head linked node queue twin call keep join deliver cut_link acknowledge known sure power fail_over judge")},
    "text.shell": {"Shell": "__init__ tell now __len__ __call__"},
    "shape.maps": {"Fields": "put take text_of bounds shape row figures plain anew __len__ __eq__"},
}
PROPERTIES = (
    "texts", "signs", "members", "wide", "bounds", "nodes", "plain", "shape", "row", "figures", "levels", "kind", "total",
    "pending", "bad", "bound", "policy", "begin", "units", "place", "now", "last", "size", "names", "name_steps", "done", "left",
    "branch", "open_units", "is_rewriting", "queued", "is_broken", "watched", "store", "waiting", "name", "stand", "kept_place",
    "kept_stand", "stretch", "leads", "line_time", "head", "linked",
)
SIGNATURES = {
    "store.core.Store": "(entries=None, *, bounds=None, bound=None, policy='refuse', place=0, now=0)",
    "store.core.Store.loaded": "(snapshot, **options)",
    "disk.disk.Disk": "(*, steps=None)",
    "disk.disk.Disk.after": "(self, many, signs, *, steps=None)",
    "disk.keeper.Keeper": "(disk, number, *, rule='always', span=1000, **options)",
    "client.blocks.Session": "(store)",
    "client.waits.Waits": "(store)",
    "client.server.Server": "(store)",
    "copy.nodes.Node": "(name, stand=None, entries=None, *, leads=True, stretch=8, bounds=None, bound=None, policy='refuse')",
    "copy.nodes.Node.keep": "(self, many=None)",
    "copy.group.Group": "(names, *, stretch=8, queue=16, bounds=None, bound=None, policy='refuse')",
    "copy.group.Group.keep": "(self, name, many=None)",
    "copy.group.Group.deliver": "(self, name, many=1)",
    "store.events.Listeners.listen": "(self, name, *wanted)",
    "text.shell.Shell": "(store)",
}


class Interface(unittest.TestCase):
    def test_functions(self):
        for name, words in FUNCTIONS.items():
            module = importlib.import_module("deedline." + name)
            for word in words.split():
                self.assertTrue(inspect.isfunction(getattr(module, word)))
                self.assertEqual(getattr(module, word).__module__, module.__name__)

    def test_signatures(self):
        for path, told in SIGNATURES.items():
            names = path.split(".")
            thing = importlib.import_module("deedline." + ".".join(names[:2]))
            for name in names[2:]:
                thing = getattr(thing, name)
            self.assertEqual((path, str(inspect.signature(thing))), (path, told))

    def test_classes(self):
        for name, classes in CLASSES.items():
            module = importlib.import_module("deedline." + name)
            for told, words in classes.items():
                self.assertEqual(getattr(module, told).__module__, module.__name__)
                for word in words.split():
                    self.assertIn(word, vars(getattr(module, told)))
                    is_property = isinstance(vars(getattr(module, told))[word], property)
                    self.assertEqual(is_property, word in PROPERTIES, word)
