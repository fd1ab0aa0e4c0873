"""[5], and the integers and numbers of [2]: counts and their texts."""

import itertools
import unittest

from leastrooms.counts import format_count, is_count, parse_count, rounds
from leastrooms.errors import BadCount, BadNumber, BadText
from tests.helping import Case, strange_values

MOST = 10 ** 30
WRITTEN = {
    "0": (0, 0), "7": (0, 7), "10": (0, 10), "n": (1, 0), "2n": (2, 0), "3n": (3, 0), "9n": (9, 0), "n+2": (1, 2),
    "n-2": (1, -2), "3n-2": (3, -2), "2n+1": (2, 1), "9n+100": (9, 100), str(MOST): (0, MOST),
    f"n-{MOST}": (1, -MOST), f"n+{MOST}": (1, MOST), f"9n-{MOST}": (9, -MOST), f"9n+{MOST}": (9, MOST),
}
NO_COUNTS = [
    (-1, 5), (10, 0), (0, -1), (1, MOST + 1), (1, -MOST - 1), (0, MOST + 1), (0, -MOST), (True, 0), (1, True),
    (False, 1), (0, False), (1.0, 0), (1, 0.0), ("1", 0), (1, "0"), (1, None), (None, 1), (1,), (1, 2, 3), [1, 2],
    (1, (2,)), ((1, 2),), 5, "n", {0: 1, 1: 2},
]
NO_TEXTS = [
    "", "0n", "1n", "10n", "n+0", "n-0", "3n+0", "0n+1", "1n+1", "03", "00", "-0", "+1", "-1", "n+", "n-", "3n+", "+n",
    "-n", "-3n", "n+02", "n2", "2n2", "nn", "2nn", "n+n", "n+2n", "2+n", "n--2", "n+-2", "n-+2", "n++2", "3 n", "3n ",
    " 3n", "3n +2", "3n+ 2", "3n+2 ", "3n+2\n", "\n7", "N", "3N", "3*n", "3m", "3n+2.0", "1e3", "1_000", "0x1", "7.",
    "\u0663", "\uff17", "\u00b2", "n+\u0663", "\u0663n", "3n\u22122", "None", "(3, 2)", "n+2n-1", "02n",
    str(MOST + 1), f"n+{MOST + 1}", f"n-{MOST + 1}", "1" + "0" * 3000, "9" * 10000, "n+" + "9" * 10000,
    "9" * 10000 + "n", "0" * 10000, "-" + "9" * 10000, "n-" + "0" * 9999 + "1", "n" * 10000,
]


class CountsTest(Case):
    def test_is_count(self):
        for count in [(0, 0), (0, 1), (9, 0), (1, -1), (0, MOST), (1, MOST), (1, -MOST), (9, -MOST), (9, MOST)]:
            self.assertIs(is_count(count), True, count)
        for thing in NO_COUNTS + strange_values():
            self.assertIs(is_count(thing), False)

    def test_rounds(self):
        self.assertEqual(rounds((0, 7), 100), 7)
        self.assertEqual(rounds((1, 0), 5), 5)
        self.assertEqual(rounds((3, 2), 4), 14)
        self.assertEqual(rounds((3, -2), 0), 0)
        self.assertEqual(rounds((2, -7), 3), 0)
        self.assertEqual(rounds((2, -7), 4), 1)
        self.assertEqual(rounds((1, -5), 5), 0)
        self.assertEqual(rounds((0, 0), MOST), 0)
        self.assertEqual(rounds((9, MOST), MOST), 10 ** 31)
        self.assertEqual(rounds((1, -MOST), MOST), 0)
        self.assertEqual(rounds((1, -MOST), 0), 0)
        self.assertEqual(rounds((2, -MOST), MOST), MOST)

    def test_rounds_of_wrong_things(self):
        self.keeps_all(BadCount, NO_COUNTS + strange_values(), lambda thing: rounds(thing, 1))
        numbers = [value for value in strange_values()] + [MOST + 1, -1, "1", (1,)]
        self.keeps_all(BadNumber, numbers, lambda thing: rounds((1, 0), thing))
        self.assertEqual(rounds((1, 0), MOST), MOST)

    def test_rounds_looks_at_count_first(self):
        self.keeps(BadCount, None, rounds, None, True)

    def test_format_count(self):
        for text, count in WRITTEN.items():
            self.assertEqual(format_count(count), text)
        self.keeps_all(BadCount, NO_COUNTS + strange_values(), format_count)

    def test_parse_count(self):
        for text, count in WRITTEN.items():
            self.assertEqual(parse_count(text), count)
            self.assertIs(type(parse_count(text)), tuple)
            self.assertEqual([type(number) for number in parse_count(text)], [int, int])

    def test_parse_count_of_wrong_things(self):
        self.keeps_all(BadText, NO_TEXTS + strange_values() + [5, (1, 0)], parse_count)

    def test_texts_with_one_sign_changed(self):
        signs = "0123456789n+- N."
        for text in ["0", "7", "12", "n", "3n", "n+2", "3n-2", "9n+100"]:
            others = {text[:at] + text[at + 1:] for at in range(len(text))}
            others |= {text[:at] + sign + text[at:] for at in range(len(text) + 1) for sign in signs}
            others |= {text[:at] + sign + text[at + 1:] for at in range(len(text)) for sign in signs}
            for other in sorted(others):
                self.check_text(other)

    def test_all_short_texts(self):
        for length in range(5):
            for signs in itertools.product("0129n+-", repeat=length):
                self.check_text("".join(signs))

    def check_text(self, text):
        if text in SHORT_TEXTS:
            self.assertEqual(parse_count(text), SHORT_TEXTS[text])
        else:
            self.keeps(BadText, text, parse_count, text)

    def test_every_count_comes_back(self):
        for a in range(10):
            for b in [0, 1, 2, 9, 10, 99, MOST - 1, MOST, -1, -2, -10, 1 - MOST, -MOST]:
                if a > 0 or b >= 0:
                    self.assertEqual(parse_count(format_count((a, b))), (a, b))


def short_texts():
    """Texts of all counts with b of at most four figures, written here anew."""
    texts = {}
    for b in range(10000):
        texts[str(b)] = (0, b)
        for a in range(1, 10):
            head = "n" if a == 1 else str(a) + "n"
            texts[head + ("+" + str(b) if b else "")] = (a, b)
            if b:
                texts[head + "-" + str(b)] = (a, -b)
    return texts


SHORT_TEXTS = short_texts()


if __name__ == "__main__":
    unittest.main()
