"""Stage 1: replies."""

from deedline.base import replies
from deedline.base.replies import error_reply, is_reply, list_reply, number_reply, text_reply, texts_reply
from deedline.errors import InvalidNumber, InvalidOperation, InvalidText
from tests.helpers import LEAST, MOST, Case, is_plain_text, not_texts, not_wholes, values

CODES = ("broken", "busy", "copy", "idle", "kind", "missing", "nested", "number", "place", "range", "room", "size",
         "syntax", "unknown", "words")


def lists(deep):
    """A reply with lists that stand so deep within one another."""
    reply = ("list", ())
    for _ in range(deep - 1):
        reply = ("list", (("none",), reply, ("text", "a")))
    return reply


class Replies(Case):
    def test_constants(self):
        self.assertEqual((replies.DONE, replies.NONE), (("done",), ("none",)))
        self.assertEqual(replies.CODES, CODES)

    def test_good_ones(self):
        good = [("done",), ("none",), ("text", ""), ("text", "a" * 200), ("number", 0), ("number", LEAST),
                ("number", MOST), ("list", ()), ("list", (("done",), ("error", "kind"), ("number", -1)))]
        for value in [*good, *[("error", code) for code in CODES]]:
            self.assertIs(is_reply(value), True)

    def test_bad_ones(self):
        bad = [(), ("done", "done"), ("none", ()), ("done", None), ("text",), ("text", "a" * 201), ("text", "a\n"),
               ("text", 1), ("text", "a", "b"), ("number",), ("number", LEAST - 1), ("number", MOST + 1),
               ("number", True), ("number", "1"), ("list",), ("list", []), ("list", [("done",)]), ("list", "ab"),
               ("list", ("done",)), ("list", (("done",), ["none"])), ("list", ("a",)), ("list", None),
               ("error",), ("error", "kinds"), ("error", ""), ("error", None), ("error", ("kind",)),
               ("error", []), ("error", 1), ("other",), ("other", "a"), (["text"], "a"), (None, None), ["done"],
               ["text", "a"], "done", ("Done",), ({}, {})]
        for value in bad:
            self.assertIs(is_reply(value), False, value)
            self.assertIs(is_reply(("list", (("done",), value))), False, value)

    def test_how_deep_lists_stand(self):
        for deep in range(1, 5):
            self.assertIs(is_reply(lists(deep)), True)
        for deep in range(5, 9):
            self.assertIs(is_reply(lists(deep)), False)
        self.assertEqual(list_reply((lists(3),)), ("list", (lists(3),)))
        self.refused(InvalidOperation, None, list_reply, (lists(4),))

    def test_how_many_members_a_list_has(self):
        for reply in (("none",), ("list", ())):
            self.assertIs(is_reply(("list", (reply,) * 1000)), True)
            self.assertIs(is_reply(("list", (reply,) * 1001)), False)
            self.assertIs(is_reply(("list", (("list", (reply,) * 1001),))), False)
            self.assertEqual(list_reply((reply,) * 1000), ("list", (reply,) * 1000))
            self.refused(InvalidOperation, None, list_reply, (reply,) * 1001)
        wide = ("list", (("none",),) * 1000)
        self.assertIs(is_reply(("list", (wide,) * 5)), True)

    def test_every_value_is_taken(self):
        good = [("done",), ("text", "a")]
        for value in values():
            self.assertIs(is_reply(value), any(type(value) is tuple and value == one for one in good))
            self.assertIs(is_reply(("text", value)), is_plain_text(value))
            self.assertIs(is_reply((value, "a")), False)

    def test_makers(self):
        self.assertEqual(text_reply(""), ("text", ""))
        self.assertEqual(number_reply(LEAST), ("number", LEAST))
        self.assertEqual(list_reply(()), ("list", ()))
        self.assertEqual(list_reply((("done",), ("text", "a"))), ("list", (("done",), ("text", "a"))))
        for code in CODES:
            self.assertEqual(error_reply(code), ("error", code))
        self.assertEqual(texts_reply(()), ("list", ()))
        self.assertEqual(texts_reply(("b", "a", "b")), ("list", (("text", "b"), ("text", "a"), ("text", "b"))))
        self.assertEqual(texts_reply(("",) * 1000), ("list", (("text", ""),) * 1000))

    def test_refused(self):
        for value in not_texts():
            self.refused(InvalidText, value, text_reply, value)
            self.refused(InvalidText, value, texts_reply, ("a", value, None))
            self.refused(InvalidText, value, texts_reply, ("a",) * 1001 + (value,))
            self.refused(InvalidOperation, None, error_reply, value)
        for value in not_wholes():
            self.refused(InvalidNumber, value, number_reply, value)
        for value in values():
            if type(value) is not tuple:
                self.refused(InvalidOperation, None, texts_reply, value)
            if value != () or type(value) is not tuple:
                self.refused(InvalidOperation, None, list_reply, value)
            self.refused(InvalidOperation, None, error_reply, value)
        self.refused(InvalidOperation, None, texts_reply, ("a",) * 1001)
        for code in ("", "Kind", "kind ", "kinds", "done"):
            self.refused(InvalidOperation, None, error_reply, code)
