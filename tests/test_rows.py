"""[6], the words of [2] and the general rules of [3] for rows: which parts make a row, and how rows are made."""

import copy
import unittest

from leastrooms.errors import BadCount, BadNumber, BadRow
from leastrooms.rows import Row, channels_of, forever, loop, messages, send, take, work
from tests.helping import Case, Strange, nested, strange_values

MOST = 10 ** 30
SEND = ("send", "c", 1)
NO_WORDS = ["", "A", "Ab", "aB", "abcdefghi", "a b", "a1", "a_", "c ", " c", "c\n", "\u00e4", "\u0431", "\uff41",
            "a" * 10000, None, True, 1, b"c", ("c",), ["c"], object()]
SINGLE = [
    SEND, ("send", "a", 9), ("send", "abcdefgh", 2), ("take", "z", 1), ("take", "zz", 9), ("work", 1), ("work", 99),
]
NO_SINGLE = [
    ("send", "c", 0), ("send", "c", 10), ("send", "c", -1), ("send", "c", True), ("send", "c", False),
    ("send", "c", 1.0), ("send", "c", "1"), ("send", "c", None), ("send", "c"), ("send", "c", 1, 1), ("send",),
    ("take", "c", 0), ("take", "c", 10), ("take", "c", True), ("take", "c"), ("take", "c", 1, 1), ("take",),
    ("work", 0), ("work", 100), ("work", -1), ("work", True), ("work", 1.0), ("work", "1"), ("work", None),
    ("work",), ("work", "c", 1), ("work", 1, 1), ("Send", "c", 1), ("sent", "c", 1), ("", "c", 1), (None, "c", 1),
    ("loop",), ("loop", (0, 1)), ("loop", (0, 1), (), ()), ("loop", 1, ()), ("loop", "n", ()), ("loop", [0, 1], ()),
    ("loop", (True, 1), ()), ("loop", (1, True), ()), ("loop", (0, -1), ()), ("loop", (10, 0), ()),
    ("loop", (0, 1), []), ("loop", (0, 1), [SEND]), ("loop", (0, 1), SEND), ("loop", (0, 1), None),
    ("loop", (0, 1), (SEND, None)), ("loop", (0, 1), Row()), ("loop", (0, MOST + 1), ()), ("loop", (1, -MOST - 1), ()),
    ("forever",), ("forever", (0, 1), ()), ("forever", []), ("forever", SEND), ("forever", None), ("forever", [SEND]),
    ("forever", (), ()), ("forever", Row()), (), [], ["send", "c", 1], "send c", None, True, 5, {"send": "c"}, b"send",
    Row((SEND,)), (("send", "c", 1),), (Strange(), "c", 1), (Strange(), (0, 1), ()), (Strange(), 5), (Strange(), ()),
    ("send", Strange(), 1), ("send", "c", Strange()), ("loop", Strange(), ()), ("forever", Strange()), ("loop", (0, 1), (("send", "c", 0),)), ("forever", (("work", 0),)),
] + [(word, channel, 1) for word in ("send", "take") for channel in NO_WORDS]


class RowTest(Case):
    def test_parts_that_make_a_row(self):
        for part in SINGLE:
            row = Row((part,))
            self.assertEqual(row.parts, (part,))
            self.assertEqual(row.size, 1)
        self.assertEqual(Row().parts, ())
        self.assertEqual(Row().size, 0)
        self.assertEqual(Row([]).parts, ())
        self.assertEqual(Row(parts=[SEND]).parts, (SEND,))
        self.assertIs(type(Row([SEND]).parts), tuple)

    def test_loops_that_make_a_row(self):
        for part in [("loop", (0, 0), ()), ("loop", (0, MOST), (SEND,)), ("loop", (9, -MOST), ()),
                     ("loop", (1, MOST), ()), ("forever", ()), ("forever", (SEND,))]:
            self.assertEqual(Row((part,)).parts, (part,))
            self.assertEqual(Row([SEND, part]).parts, (SEND, part))

    def test_parts_that_make_none(self):
        for part in NO_SINGLE:
            for parts in [(part,), [part], (SEND, part), (part, SEND), (("loop", (0, 1), (part,)),),
                          [("forever", (SEND, part))]]:
                with self.subTest(part=part):
                    self.keeps(BadRow, parts, Row, parts)

    def test_values_that_make_none(self):
        values = [value for value in strange_values() if value not in ((), [])]
        self.keeps_all(BadRow, values + [SEND, "send c", Row(), {SEND: 1}, iter([SEND]), (part for part in [SEND])], Row)

    def test_sixty_parts(self):
        for parts in [(SEND,) * 60, (("loop", (0, 1), (SEND,) * 59),), (("loop", (0, 1), (SEND,)),) * 30,
                      (SEND,) * 10 + nested(4, (SEND,) * 46), (SEND,) * 58 + (("forever", (SEND,)),),
                      (("loop", (0, 1), ()),) * 60]:
            self.assertEqual(Row(parts).size, 60)
            self.assertEqual(Row(list(parts)).parts, parts)

    def test_sixty_one_parts(self):
        for parts in [(SEND,) * 61, (("loop", (0, 1), (SEND,) * 60),), (("loop", (0, 1), (SEND,)),) * 30 + (SEND,),
                      (SEND,) * 10 + nested(4, (SEND,) * 47), (SEND,) * 59 + (("forever", (SEND,)),),
                      (("loop", (0, 1), ()),) * 61, (SEND,) * 100000, [SEND] * 61]:
            self.keeps(BadRow, parts, Row, parts)

    def test_parts_that_stand_in_each_other_again_and_again(self):
        parts = (SEND,) * 60
        for _ in range(4):
            parts = (("loop", (0, 1), parts),) * 60
        self.keeps(BadRow, parts, Row, parts)

    def test_four_loops_deep(self):
        for parts in [nested(4, ()), nested(4, (SEND,)), (("forever", nested(3, (SEND,))),), (("forever", nested(3, ())),)]:
            self.assertEqual(Row(parts).parts, parts)

    def test_five_loops_deep(self):
        for parts in [nested(5, ()), nested(5, (SEND,)), (("forever", nested(4, (SEND,))),), (("forever", nested(4, ())),),
                      nested(6, ()), nested(3000, ())]:
            self.keeps(BadRow, parts, Row, parts)

    def test_forever_is_last_and_outermost(self):
        end = ("forever", (SEND,))
        self.assertEqual(Row((SEND, ("loop", (0, 1), ()), end)).size, 4)
        for parts in [(end, SEND), (end, end), (SEND, end, SEND), (("loop", (0, 1), (end,)),), (("forever", (end,)),),
                      (("forever", ()), SEND), (("forever", ()), ("forever", ())), (end, ("loop", (0, 0), ())),
                      (("loop", (0, 0), (end,)),), nested(3, (end,))]:
            self.keeps(BadRow, parts, Row, parts)
            self.keeps_equal(BadRow, list(parts), Row, list(parts))

    def test_what_was_handed_in_may_change(self):
        parts = [SEND, ("work", 5)]
        row = Row(parts)
        parts.append(("work", 6))
        parts[0] = ("work", 7)
        self.assertEqual(row.parts, (SEND, ("work", 5)))
        self.assertEqual(str(row), "send c; work 5")
        self.assertEqual(row.size, 2)

    def test_what_was_handed_in_is_not_changed(self):
        parts = [SEND, ("loop", (2, 1), (("take", "d", 2),)), ("forever", (SEND,))]
        before = copy.deepcopy(parts)
        row = Row(parts)
        self.assertEqual(parts, before)
        other = Row([SEND])
        for call in [lambda: other + row, lambda: other * 3, lambda: channels_of(row), lambda: messages(row, 3),
                     lambda: str(row), lambda: loop(2, other), lambda: forever(other)]:
            call()
            self.assertEqual(row.parts, tuple(before))
            self.assertEqual(other.parts, (SEND,))

    def test_equal(self):
        self.assertTrue(Row([SEND]) == Row((SEND,)))
        self.assertFalse(Row([SEND]) != Row((SEND,)))
        self.assertTrue(Row() == Row([]))
        for other in [Row(), Row((SEND, SEND)), Row((("send", "d", 1),)), Row((("send", "c", 2),)),
                      Row((("take", "c", 1),)), loop(1, send("c"))]:
            self.assertFalse(Row((SEND,)) == other)
            self.assertTrue(Row((SEND,)) != other)

    def test_equal_to_nothing_else(self):
        for other in [(SEND,), [SEND], "send c", None, 1, SEND, object()]:
            self.assertFalse(Row((SEND,)) == other)
            self.assertFalse(other == Row((SEND,)))
            self.assertTrue(Row((SEND,)) != other)
        self.assertFalse(Row() == ())


class MadeRowsTest(Case):
    def test_send_and_take(self):
        for make, word in [(send, "send"), (take, "take")]:
            self.assertIsInstance(make("c"), Row)
            self.assertEqual(make("c").parts, ((word, "c", 1),))
            self.assertEqual(make("abcdefgh", 9).parts, ((word, "abcdefgh", 9),))
            self.assertEqual(make(channel="a", k=2).parts, ((word, "a", 2),))

    def test_wrong_send_and_take(self):
        for make, word in [(send, "send"), (take, "take")]:
            for channel in NO_WORDS:
                self.keeps_equal(BadRow, (word, channel, 1), make, channel)
            for k in [0, 10, -1, True, False, 1.0, "1", None, [1], 10 ** 5000]:
                self.keeps_equal(BadRow, (word, "c", k), make, "c", k)

    def test_work(self):
        for time in [1, 5, 99]:
            self.assertEqual(work(time).parts, (("work", time),))
        self.assertEqual(work(time=3).size, 1)
        for time in [0, 100, -1, True, False, 1.0, "5", None, (5,), [5]]:
            self.keeps_equal(BadRow, ("work", time), work, time)

    def test_loop_counts(self):
        for given, count in [(0, (0, 0)), (7, (0, 7)), (MOST, (0, MOST)), ((0, 7), (0, 7)), ((9, -MOST), (9, -MOST)),
                             ("n", (1, 0)), ("2n+1", (2, 1)), ("3n-2", (3, -2)), ("7", (0, 7)), ("0", (0, 0))]:
            expected = (("loop", count, (SEND,)),)
            self.assertEqual(loop(given, send("c")).parts, expected)
            self.assertEqual((send("c") * given).parts, expected)
            self.assertIs(type(loop(given, send("c")).parts[0][1]), tuple)
        self.assertEqual(loop(count=2, row=Row()).parts, (("loop", (0, 2), ()),))

    def test_wrong_loop_counts(self):
        wrong = [value for value in strange_values()] + [
            MOST + 1, (0, -1), (10, 0), (True, 1), (1, False), [1, 0], "n+0", "1n", "03", " 7", "-7", "9" * 5000, Row(),
            (("send", "c", 1),), 2.0,
        ]
        self.keeps_all(BadCount, wrong, lambda count: loop(count, send("c")))
        self.keeps_all(BadCount, wrong, lambda count: send("c") * count)
        self.keeps_all(BadCount, wrong, lambda count: loop(count, None))

    def test_loop_and_forever_of_no_row(self):
        wrong = strange_values() + [(SEND,), "send c", [SEND]]
        self.keeps_all(BadRow, wrong, lambda row: loop(3, row))
        self.keeps_all(BadRow, wrong, forever)

    def test_forever(self):
        self.assertEqual(forever(send("c") + work(2)).parts, (("forever", (SEND, ("work", 2))),))
        self.assertEqual(forever(Row()).parts, (("forever", ()),))
        self.assertEqual(forever(row=send("c")).size, 2)

    def test_too_deep(self):
        row = send("c")
        for depth in range(1, 5):
            row = row * depth
            self.assertEqual(row.size, depth + 1)
        part = ("loop", (1, 5), row.parts)
        self.keeps_equal(BadRow, part, lambda: row * "n+5")
        self.keeps_equal(BadRow, part, loop, (1, 5), row)
        self.keeps_equal(BadRow, ("forever", row.parts), forever, row)
        self.assertEqual(forever(Row(nested(3, (SEND,)))).size, 5)

    def test_too_many(self):
        row = Row((SEND,) * 60)
        self.keeps_equal(BadRow, ("loop", (0, 2), row.parts), lambda: row * 2)
        self.keeps_equal(BadRow, ("loop", (0, 2), row.parts), loop, "2", row)
        self.keeps_equal(BadRow, ("forever", row.parts), forever, row)
        self.assertEqual((Row((SEND,) * 59) * 2).size, 60)

    def test_forever_within(self):
        row = send("c") + forever(send("c"))
        self.keeps_equal(BadRow, ("loop", (0, 1), row.parts), lambda: row * 1)
        self.keeps_equal(BadRow, ("loop", (1, 0), row.parts), loop, "n", row)
        self.keeps_equal(BadRow, ("forever", row.parts), forever, row)

    def test_join(self):
        row = send("c") + take("d") * 3 + work(5)
        self.assertIsInstance(row, Row)
        self.assertEqual(row.parts, (SEND, ("loop", (0, 3), (("take", "d", 1),)), ("work", 5)))
        self.assertEqual(row.size, 4)
        self.assertEqual(Row() + row, row)
        self.assertEqual(row + Row(), row)
        self.assertEqual((row + forever(row)).size, 9)

    def test_join_of_no_row(self):
        self.keeps_all(BadRow, strange_values() + [(SEND,), "send c"], lambda other: send("c") + other)

    def test_join_that_makes_no_row(self):
        one, other = Row((SEND,) * 30), Row((("work", 1),) * 31)
        self.keeps_equal(BadRow, one.parts + other.parts, lambda: one + other)
        end = forever(send("c"))
        self.keeps_equal(BadRow, end.parts + (SEND,), lambda: end + send("c"))
        self.keeps_equal(BadRow, end.parts + end.parts, lambda: end + end)
        self.assertEqual((one + Row(other.parts[1:])).size, 60)
        self.assertEqual(one.parts, (SEND,) * 30)

    def test_join_and_times_leave_both_as_they_were(self):
        one, other = send("c"), take("d")
        joined = one + other
        joined = joined + joined
        many = one * 5
        self.assertEqual([one.parts, other.parts, many.size], [(SEND,), (("take", "d", 1),), 2])
        self.assertEqual([one.size, other.size], [1, 1])


class ChannelsTest(Case):
    def test_channels(self):
        row = send("d") + loop(0, take("b", 3) + loop("n", send("a"))) + work(4) + send("d", 2) + forever(take("c"))
        self.assertEqual(channels_of(row), ["a", "b", "c", "d"])
        self.assertEqual(channels_of(work(3)), [])
        self.assertEqual(channels_of(Row()), [])
        self.assertEqual(channels_of(row=send("c") + take("c")), ["c"])
        self.assertEqual(channels_of(send("b") + send("aa") + send("a")), ["a", "aa", "b"])

    def test_new_list(self):
        row = send("c")
        found = channels_of(row)
        found.append("d")
        self.assertEqual(channels_of(row), ["c"])
        self.assertIs(type(found), list)

    def test_channels_of_no_row(self):
        self.keeps_all(BadRow, strange_values() + [(SEND,), "send c"], channels_of)

    def test_messages(self):
        row = send("c", 2) + loop("2n+1", take("d", 3) + loop(4, send("c"))) + take("c") + work(9)
        self.assertEqual(messages(row, 0), {("send", "c"): 6, ("take", "d"): 3, ("take", "c"): 1})
        self.assertEqual(messages(row, 5), {("send", "c"): 46, ("take", "d"): 33, ("take", "c"): 1})
        self.assertEqual(messages(row=Row(), n=5), {})
        self.assertEqual(messages(work(3) * 5, 5), {})

    def test_messages_of_parts_that_are_never_done(self):
        row = loop(0, send("c")) + loop("n-3", take("d", 9)) + loop(0, loop(5, take("e")))
        self.assertEqual(messages(row, 3), {("send", "c"): 0, ("take", "d"): 0, ("take", "e"): 0})
        self.assertEqual(messages(row, 5), {("send", "c"): 0, ("take", "d"): 18, ("take", "e"): 0})

    def test_messages_far_away(self):
        row = loop(MOST, loop("9n+1", loop("n", loop(MOST, send("c", 9)))))
        self.assertEqual(messages(row, MOST), {("send", "c"): MOST * (9 * MOST + 1) * MOST * MOST * 9})
        self.assertEqual(messages(row, 0), {("send", "c"): 0})

    def test_messages_without_end(self):
        row = send("c") + send("e", 2) + forever(send("c") + take("d") + loop("n", take("f")) + loop(0, send("e")))
        self.assertEqual(messages(row, 2), {
            ("send", "c"): None, ("send", "e"): 2, ("take", "d"): None, ("take", "f"): None,
        })
        self.assertEqual(messages(row, 0)[("take", "f")], 0)
        empty = send("c") + forever(loop("n", send("c") + loop(2, take("d"))))
        self.assertEqual(messages(empty, 0), {("send", "c"): 1, ("take", "d"): 0})
        self.assertEqual(messages(empty, 1), {("send", "c"): None, ("take", "d"): None})
        twice = forever(send("c") + loop(0, send("c")) + take("d") + loop("n", take("d")) + send("c"))
        self.assertEqual(messages(twice, 0), {("send", "c"): None, ("take", "d"): None})
        deep = forever(loop(3, loop("n-1", send("c"))) + loop("n", loop(0, take("d"))))
        self.assertEqual(messages(deep, 1), {("send", "c"): 0, ("take", "d"): 0})
        self.assertEqual(messages(deep, 2), {("send", "c"): None, ("take", "d"): 0})

    def test_messages_is_a_new_dict(self):
        row = send("c")
        found = messages(row, 0)
        found.clear()
        self.assertEqual(messages(row, 0), {("send", "c"): 1})

    def test_messages_of_wrong_things(self):
        self.keeps_all(BadRow, strange_values() + [(SEND,), "send c"], lambda row: messages(row, 1))
        numbers = strange_values() + [MOST + 1, "1", (1,)]
        self.keeps_all(BadNumber, numbers, lambda n: messages(send("c"), n))
        self.keeps(BadRow, None, messages, None, -1)
        self.assertEqual(messages(send("c"), MOST), {("send", "c"): 1})


class TextTest(Case):
    def test_texts(self):
        for row, text in [
            (Row(), ""), (send("c"), "send c"), (send("c", 3), "send c 3"), (take("abc"), "take abc"),
            (take("abc", 9), "take abc 9"), (work(5), "work 5"), (work(1), "work 1"), (work(99), "work 99"),
            (loop("3n+2", send("c", 2) + take("d")), "loop 3n+2 (send c 2; take d)"), (loop(0, Row()), "loop 0 ()"),
            (loop("n", Row()), "loop n ()"), (forever(send("c")), "forever (send c)"), (forever(Row()), "forever ()"),
            (send("c") + work(2), "send c; work 2"),
            (loop(1, loop("n-1", work(3)) + take("c")) + forever(loop((9, -MOST), Row())),
             f"loop 1 (loop n-1 (work 3); take c); forever (loop 9n-{MOST} ())"),
        ]:
            self.assertEqual(str(row), text)
            self.assertIs(type(str(row)), str)

    def test_example(self):
        row = send("c", 2) + loop("2n+1", take("d")) * 3
        self.assertEqual([str(row), row.size, row.parts[1][:2]],
                         ["send c 2; loop 3 (loop 2n+1 (take d))", 4, ("loop", (0, 3))])


if __name__ == "__main__":
    unittest.main()
