"""[7]: rows as texts."""

import unittest

from leastrooms.errors import BadText
from leastrooms.rows import Row, forever, loop, send, take, work
from leastrooms.texts import parse_row
from tests.helping import Case, chance_row, chances, nested, strange_values

FAR = 10 ** 30


def rows_of_all_kinds():
    return [
        Row(), send("c"), send("c", 2), send("abcdefgh", 9), take("c"), take("z", 9), work(1), work(99), work(10),
        loop("n", Row()), loop(0, Row()), loop(FAR, Row()), loop((9, -FAR), Row()), loop((9, FAR), Row()),
        loop("3n+2", send("c") + take("d")), forever(Row()), forever(work(5) + send("c")),
        loop("n", Row()) + forever(loop(7, Row())), send("c", 2) + loop("2n+1", take("d")) * 3,
        Row(nested(4, (("work", 1),))), forever(Row(nested(3, (("send", "c", 3), ("work", 1))))),
        Row((("work", 9),) * 60), Row((("loop", (9, -FAR), ()),) * 60),
        work(1) + loop("n-1", work(2) + loop("2n", work(3)) + work(4)) + work(5) + forever(work(6) + loop(1, Row()) + work(7)),
        send("send") + take("take") + send("work") + take("loop") + send("forever"),
    ]


class ParseTest(Case):
    def test_the_example(self):
        row = send("c", 2) + loop("2n+1", take("d")) * 3
        self.assertEqual([str(row), row.size, row.parts[1][:2]],
                         ["send c 2; loop 3 (loop 2n+1 (take d))", 4, ("loop", (0, 3))])
        self.assertEqual(parse_row(str(row)), row)

    def test_what_str_writes_comes_back(self):
        for row in rows_of_all_kinds():
            found = parse_row(str(row))
            self.assertIsInstance(found, Row)
            self.assertEqual(found, row)
            self.assertEqual(str(found), str(row))

    def test_the_longest_text(self):
        part = ("loop", (9, -FAR), ())
        row = Row((part,) * 60)
        self.assertEqual(parse_row(str(row)), row)
        row = forever(Row((("loop", (9, -FAR), (part,)),) * 29))
        self.assertEqual(parse_row(str(row)), row)

    def test_forms(self):
        for text, parts in [("", ()), ("send c", (("send", "c", 1),)), ("take c 3", (("take", "c", 3),)),
                            ("work 5", (("work", 5),)), ("loop 3n+2 ()", (("loop", (3, 2), ()),)),
                            ("forever ()", (("forever", ()),)), ("loop n (work 1)", (("loop", (1, 0), (("work", 1),)),))]:
            self.assertEqual(parse_row(text).parts, parts)

    def test_by_chance(self):
        for chance in chances(200, 71):
            row = chance_row(chance, ["p", "q"], ["r"], 0, 0.3)
            self.assertEqual(parse_row(str(row)), row)

    def refuses(self, texts):
        self.keeps_all(BadText, texts, parse_row)

    def test_other_forms(self):
        self.refuses([
            "send", "send ", "send c 1", "send c 0", "send c 10", "send c 02", "send c +2", "send c -2", "send c 2 2", "send C",
            "send c2", "send abcdefghi", "send  c", "send c ", " send c", "send c  2", "Send c", "send c;", "; send c",
            "send c;take d", "send c ; take d", "send c;  take d", "send c; ; take d", "send c; take d; ", "sendc", "send\tc",
            "take", "take c 1", "take c x", "send c\n", "send \u00e4", "send c \u0662", "wait c", "c",
            "work", "work 0", "work 100", "work 05", "work +5", "work -5", "work n", "work 5 5", "work c", "work ", "work  5",
            "loop", "loop 3", "loop 3 ", "loop 3 (", "loop 3 )", "loop 3 (work 1", "loop 3 work 1)", "loop 3 (work 1))",
            "loop 3 ((work 1))", "loop 3(work 1)", "loop 3  (work 1)", "loop  3 (work 1)", "loop 3 (work 1) ",
            "loop 3 ( work 1)", "loop 3 (work 1 )", "loop (work 1)", "loop 3 (work 1);", "loop 3 (work 1;)", "loop 3 (;)",
            "loop 03 ()", "loop +3 ()", "loop -3 ()", "loop 1n ()", "loop 0n ()", "loop n+0 ()", "loop n-0 ()", "loop 10n ()",
            "loop 0n+3 ()", "loop n+02 ()", "loop 2+n ()", "loop 2*n ()", "loop N ()", "loop m ()", "loop nn ()", "loop n + 2 ()",
            "loop n2 ()", "loop -n ()", f"loop {FAR + 1} ()", f"loop n+{FAR + 1} ()", f"loop n-{FAR + 1} ()", "loop 3 () ()",
            "loop 3 ()()", "loop 3 (work 1) work 2", "loop 3 (work 1)work 2", "loop 3 n ()", "loop  ()",
            "forever", "forever ", "forever()", "forever (", "forever )", "forever (work 1", "forever 3 (work 1)",
            "forever (work 1); work 2", "work 1; forever (work 1); forever (work 1)", "forever (forever (work 1))",
            "loop 2 (forever (work 1))", "Forever (work 1)", "forever (work 1) ", "()", "(work 1)", "work 1 ()", "send c (work 1)",
            "loop n (loop)", "loop n (send c;)", ";", "; ", " ", "\n", "; ;",
        ])

    def test_too_deep_and_too_many(self):
        deep = str(Row(nested(4, (("work", 1),))))
        self.assertEqual(parse_row(deep).size, 5)
        self.assertEqual(parse_row(f"forever ({deep[8:-1]})").size, 5)
        self.refuses([f"loop 1 ({deep})", f"forever ({deep})", f"forever (loop 1 ({deep}))", f"work 1; loop 1 ({deep})"])
        many = "; ".join(["work 1"] * 60)
        self.assertEqual(parse_row(many).size, 60)
        self.refuses([many + "; work 1", f"loop 1 ({many})", f"forever ({many})"])
        self.assertEqual(parse_row(f"loop 1 ({many[8:]})").size, 60)

    def test_thousands_of_signs(self):
        for many in (50, 900, 5000, 100000):
            self.refuses(["(" * many, ")" * many, "loop n (" * many, "loop n (" * many + ")" * many, "forever (" * many,
                          "work " + "1" * many, "send c " + "2" * many, "loop " + "9" * many + " ()", "n" * many,
                          "loop n+" + "1" * many + " ()", "work 1; " * many, ";" * many, " (" * many + " )" * many,
                          "loop n ()" * many, "()" * many, "send " + "c" * many])

    def test_a_sign_put_in_left_out_or_exchanged_at_each_place(self):
        for row in [send("c", 2) + loop("2n+1", take("d") + work(15)) + work(7), forever(loop("n-3", send("c")) + take("d", 4))]:
            text = str(row)
            others = []
            for at in range(len(text) + 1):
                others.extend(text[:at] + sign + text[at:] for sign in "az09 ();+-n\n")
                others.extend(text[:at] + sign + text[at + 1:] for sign in "az09 ();+-n\n")
                others.append(text[:at] + text[at + 1:])
            right = 0
            for other in others:
                try:
                    found = parse_row(other)
                except BadText as error:
                    self.assertIs(error.value, other)
                else:
                    # What is accepted is just what str writes for it.
                    self.assertEqual(str(found), other)
                    self.assertTrue(other == text or found != row)
                    right += 1
            self.assertLess(right, len(others) // 2)
            self.assertGreater(right, 10)

    def test_any_value(self):
        values = [value for value in strange_values() if not (isinstance(value, str) and value == "")]
        self.refuses(values + [send("c"), ("send", "c", 1), b"send c", ["send c"]])


if __name__ == "__main__":
    unittest.main()
