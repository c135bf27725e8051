"""The head of the interface: each name stands in the module, and in the class, under which it is listed."""

import importlib
import inspect
import unittest

FUNCTIONS = {
    "base.replies": "is_reply text_reply number_reply list_reply error_reply texts_reply",
    "base.words": "is_text is_key is_time is_whole is_command number_of text_of clipped",
    "base.patterns": "parts_of does_fit fitting fixed_start",
    "base.hashes": "hash_of spot_of sum_of reversed_bits bucket_spots",
    "shape.packs": "is_nodes",
    "shape.sets": "united shared parted",
    "shape.skips": "height_of is_levels",
    "shape.entries": "is_plain is_entry is_store shaped is_shaped kind_of plain_of shape_of value_size entry_size store_size",
    "plain.grammar": "does_write first_error keys_of options_of",
    "plain.texts": "do_text",
    "plain.lists": "do_list",
    "plain.sets": "do_set",
    "plain.maps": "do_map",
    "plain.sorts": "do_sorted",
    "plain.keys": "do_keys",
    "plain.store": "is_deed is_unit is_line has_run_out shown do do_block resolved apply changed_keys replay",
    "base.letters": "write_command write_reply read_command read_reply",
    "store.room": "run_out sweep_deeds order_out room_deeds",
}
CLASSES = {
    "errors": {name: "" for name in (
        "DeedError InvalidText InvalidCommand InvalidStore InvalidOperation ParseError InvalidTime InvalidNumber "
        "TooMany UnknownName BadLetters PowerLost Refused").split()},
    "shape.tables": {"Table": "put get take scan all_names all_items counts rows __contains__ __len__ __eq__"},
    "shape.packs": {
        "Bounds": "texts signs members wide usual __eq__",
        "Pack": "put take change keep part at places_of bounds nodes plain __len__ __eq__",
    },
    "shape.sets": {"Members": "put take has bounds shape row figures plain anew __len__ __eq__"},
    "shape.skips": {"Skips": "put take score_of place_of steps_of at part below plain levels __len__ __eq__"},
    "shape.sorts": {"Scores": "put take score_of place_of at part below bounds shape levels plain anew __len__ __eq__"},
    "base.letters": {"Reader": "feed made kind total pending bad"},
    "store.room": {"Marks": "use forget mark_of table twin __len__"},
    "shape.maps": {"Fields": "put take text_of bounds shape row figures plain anew __len__ __eq__"},
}
PROPERTIES = (
    "texts", "signs", "members", "wide", "bounds", "nodes", "plain", "shape", "row", "figures", "levels", "kind", "total",
    "pending", "bad",
)


class Interface(unittest.TestCase):
    def test_functions(self):
        for name, words in FUNCTIONS.items():
            module = importlib.import_module("deedline." + name)
            for word in words.split():
                self.assertTrue(inspect.isfunction(getattr(module, word)))
                self.assertEqual(getattr(module, word).__module__, module.__name__)

    def test_classes(self):
        for name, classes in CLASSES.items():
            module = importlib.import_module("deedline." + name)
            for told, words in classes.items():
                self.assertEqual(getattr(module, told).__module__, module.__name__)
                for word in words.split():
                    self.assertIn(word, vars(getattr(module, told)))
                    is_property = isinstance(vars(getattr(module, told))[word], property)
                    self.assertEqual(is_property, word in PROPERTIES, word)
