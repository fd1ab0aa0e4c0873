"""[9], and the words of [2] and the general rules of [3] for nets."""

import unittest

from leastrooms.errors import BadNet, NoChannel, NoProcess, NoStore
from leastrooms.nets import Net
from leastrooms.rows import Row, forever, loop, send, take, work
from tests.helping import Case, Strange, strange_values

NO_WORDS = ["", "A", "Ann", "abcdefghi", "a b", "a1", "\u00e4", "a\n", None, True, False, 1, 0, b"c", ("c",)]
PAIR = {"ann": send("c") + send("d"), "bob": take("c") + take("d")}
NOT_HASHED = [[], {}, ["ann"], Strange(), set()]


def rows_of(words):
    """A dict of each word and a program of one work."""
    return {word: work(1) for word in words}


def joined(rows):
    """One row of several."""
    row = Row()
    for other in rows:
        row = row + other
    return row


class NetTest(Case):
    def setUp(self):
        self.net = Net(
            {
                "cid": take("q", 4) + take("a"), "ann": send("c") + loop(0, send("d", 3)) + send("b"),
                "bob": take("c", 2) + forever(take("d") + work(4)), "dan": work(4),
            },
            {"c": 2, "a": 99}, {"store": ["d", "c"]},
        )

    def test_properties(self):
        self.assertEqual(self.net.processes, ("ann", "bob", "cid", "dan"))
        self.assertEqual(self.net.channels, ("a", "b", "c", "d", "q"))
        self.assertEqual(self.net.stores, ("a", "b", "q", "store"))
        for words in (self.net.processes, self.net.channels, self.net.stores):
            self.assertIs(type(words), tuple)

    def test_row(self):
        self.assertEqual(self.net.row("dan"), work(4))
        self.assertEqual(self.net.row(process="cid"), take("q", 4) + take("a"))
        self.assertIsInstance(self.net.row("ann"), Row)

    def test_ends_of_channels(self):
        self.assertEqual([self.net.sender(channel) for channel in self.net.channels], [None, "ann", "ann", "ann", None])
        self.assertEqual([self.net.taker(channel) for channel in self.net.channels], ["cid", None, "bob", "bob", "cid"])
        self.assertEqual(self.net.sender(channel="d"), "ann")
        self.assertEqual(self.net.taker(channel="d"), "bob")

    def test_first(self):
        self.assertEqual([self.net.first(channel) for channel in self.net.channels], [99, 0, 2, 0, 0])
        self.assertEqual(self.net.first(channel="c"), 2)

    def test_stores(self):
        self.assertEqual([self.net.store_of(channel) for channel in self.net.channels], ["a", "b", "store", "store", "q"])
        self.assertEqual([self.net.channels_in(store) for store in self.net.stores], [["a"], ["b"], ["q"], ["c", "d"]])
        self.assertEqual(self.net.store_of(channel="c"), "store")
        self.assertEqual(self.net.channels_in(store="store"), ["c", "d"])

    def test_new_lists(self):
        found = self.net.channels_in("store")
        self.assertIs(type(found), list)
        found.append("x")
        self.assertEqual(self.net.channels_in("store"), ["c", "d"])

    def test_least_room(self):
        self.assertEqual([self.net.least_room(store) for store in self.net.stores], [99, 1, 4, 3])
        self.assertEqual(self.net.least_room(store="store"), 3)

    def test_least_room_of_first_messages_together(self):
        programs = {"ann": send("c", 3) + send("d") + send("e"), "bob": take("c") + take("d", 2) + take("e")}
        for first, least in [({}, 3), ({"c": 2}, 3), ({"c": 2, "d": 1}, 3), ({"c": 2, "d": 2}, 4),
                             ({"c": 99, "d": 99}, 198), ({"c": 2, "d": 2, "e": 50}, 4)]:
            self.assertEqual(Net(programs, first, {"s": ("c", "d")}).least_room("s"), least)
        self.assertEqual(Net(programs, {"c": 2, "d": 2}).least_room("c"), 3)
        self.assertEqual(Net(programs, {"c": 4, "d": 2}).least_room("c"), 4)
        self.assertEqual(Net(programs, {"c": 4, "d": 2}).least_room("d"), 2)

    def test_least_room_counts_what_is_never_done(self):
        programs = {"ann": loop(0, send("c", 5)), "bob": take("c") + loop("n", loop(0, take("c", 7)))}
        self.assertEqual(Net(programs).least_room("c"), 7)
        self.assertEqual(Net({"ann": loop(0, send("c", 5)), "bob": take("c")}).least_room("c"), 5)
        self.assertEqual(Net({"bob": take("c", 9)}).least_room("c"), 9)
        self.assertEqual(Net({"ann": loop(9, send("c"))}).least_room("c"), 1)

    def test_no_process(self):
        wrong = strange_values() + NOT_HASHED + ["c", "store", "eva", "ANN", "ann "]
        self.keeps_all(NoProcess, wrong, self.net.row)

    def test_no_channel(self):
        wrong = strange_values() + NOT_HASHED + ["ann", "store", "x", "C", "c "]
        for call in (self.net.sender, self.net.taker, self.net.first, self.net.store_of):
            self.keeps_all(NoChannel, wrong, call)

    def test_no_store(self):
        wrong = strange_values() + NOT_HASHED + ["ann", "c", "d", "x", "Store"]
        for call in (self.net.channels_in, self.net.least_room):
            self.keeps_all(NoStore, wrong, call)

    def test_net_without_channels(self):
        net = Net({"ann": work(1)})
        self.assertEqual([net.processes, net.channels, net.stores], [("ann",), (), ()])
        self.assertEqual(Net({"ann": Row()}).row("ann"), Row())


class ProgramsTest(Case):
    def test_one_and_eight_processes(self):
        self.assertEqual(Net(rows_of("h")).processes, ("h",))
        self.assertEqual(Net(rows_of("hgfedcba")).processes, tuple("abcdefgh"))
        self.assertEqual(Net(programs=rows_of("a")).processes, ("a",))

    def test_none_and_nine_processes(self):
        for programs in [{}, rows_of("abcdefghi")]:
            self.keeps(BadNet, programs, Net, programs)

    def test_wrong_programs(self):
        wrong = strange_values() + [[("ann", Row())], ("ann",), "ann", Row(), {"ann": None}, {"ann": (("send", "c", 1),)},
                                    {"ann": "send c"}, {"ann": work(1), "bob": None}, {"ann": Row}, {"ann": []}]
        self.keeps_all(BadNet, wrong, Net)
        for word in NO_WORDS:
            for programs in [{word: work(1)}, {"ann": work(1), word: work(1)}]:
                self.keeps(BadNet, programs, Net, programs)

    def test_words_of_one_and_eight_letters(self):
        self.assertEqual(Net(rows_of(["a", "abcdefgh"])).processes, ("a", "abcdefgh"))

    def test_twelve_and_thirteen_channels(self):
        twelve = {"ann": joined([send(channel) for channel in "abcdefghijkl"])}
        self.assertEqual(Net(twelve).channels, tuple("abcdefghijkl"))
        twelve["bob"] = joined([take(channel) for channel in "abcdefghijkl"])
        self.assertEqual(Net(twelve).channels, tuple("abcdefghijkl"))
        for row in [send("m"), take("m"), loop(0, take("m"))]:
            thirteen = {**twelve, "cid": row}
            self.keeps(BadNet, thirteen, Net, thirteen)
        apart = {"ann": joined([send(channel) for channel in "abcdef"]),
                 "bob": joined([take(channel) for channel in "ghijklm"])}
        self.keeps(BadNet, apart, Net, apart)

    def test_two_at_one_end(self):
        for make in (send, take):
            for other in [make("c"), make("c", 2), loop(0, make("c")), forever(loop(0, make("c")))]:
                programs = {"ann": make("c"), "bob": other}
                self.keeps(BadNet, programs, Net, programs)

    def test_both_ends_at_one_process(self):
        for row in [send("c") + take("c"), take("c") + loop(0, send("c")), loop("n", send("c") + take("c"))]:
            self.keeps_all(BadNet, [{"ann": row}], Net)
            programs = {"ann": row, "bob": take("c")}
            self.keeps(BadNet, programs, Net, programs)
        self.assertEqual(Net({"ann": send("c") + send("c"), "bob": take("c") + take("c")}).channels, ("c",))


class FirstTest(Case):
    def test_first_messages(self):
        for first in [{"c": 1}, {"c": 99}, {"c": 1, "d": 99}, {}]:
            net = Net(PAIR, first)
            self.assertEqual([net.first("c"), net.first("d")], [first.get("c", 0), first.get("d", 0)])

    def test_none_is_an_empty_dict(self):
        self.assertEqual(Net(PAIR, None), Net(PAIR, {}))
        self.assertEqual(Net(PAIR, first=None, stores=None), Net(PAIR))
        self.assertEqual(Net(PAIR, {}, {}), Net(PAIR))

    def test_wrong_numbers(self):
        for k in [0, 100, -1, True, False, 1.0, "1", None, (1,), [1], 10 ** 5000, Strange()]:
            for first in [{"c": k}, {"d": 5, "c": k}]:
                self.keeps(BadNet, first, Net, PAIR, first)

    def test_wrong_channels(self):
        for channel in NO_WORDS + ["x", "ann", "s"]:
            first = {channel: 1}
            self.keeps(BadNet, first, Net, PAIR, first)
        first = {"s": 1}
        self.keeps(BadNet, first, Net, PAIR, first, {"s": ["c", "d"]})

    def test_no_dict(self):
        wrong = [value for value in strange_values() if value is not None and type(value) is not dict]
        self.keeps_all(BadNet, wrong + [[("c", 1)], ("c",), {1: 2}, 0], lambda first: Net(PAIR, first))


class StoresTest(Case):
    def setUp(self):
        self.programs = {"ann": send("c") + send("d") + send("e") + take("y"), "bob": take("c") + send("x"),
                         "cid": take("u") + take("v")}

    def test_shared_stores(self):
        for channels in [["c", "d"], ("d", "c"), ["e", "c", "d"], ("c", "e")]:
            net = Net(self.programs, None, {"s": channels})
            self.assertEqual(net.channels_in("s"), sorted(channels))
            self.assertEqual([net.store_of(channel) for channel in channels], ["s"] * len(channels))
        self.assertEqual(Net(self.programs, stores={"s": ["c", "d"]}).stores, ("e", "s", "u", "v", "x", "y"))

    def test_two_shared_stores(self):
        programs = {"ann": joined([send(channel) for channel in "abcdef"])}
        net = Net(programs, None, {"t": ["a", "b", "c"], "s": ("e", "f")})
        self.assertEqual(net.stores, ("d", "s", "t"))

    def test_wrong_channels(self):
        for channels in [[], ["c"], ("c",), "cd", "c", None, {"c": 1, "d": 1}, {"c", "d"}, 5, True, ["c", "c"],
                         ["c", "d", "c"], ("c", "x"), ["c", "d", "x"], ["u", "v"], ["c", "u"], ["u", "c"], ["x", "y"],
                         ["c", "z"], ["c", "ann"], ["c", None], ["c", True], ["c", ["d"]], [["c"], "d"], [None, None],
                         ["c", "s"], ("c", "d", "d"), ["c", "D"], Strange(), iter(["c", "d"]), [Strange(), Strange()]]:
            stores = {"s": channels}
            self.keeps(BadNet, stores, Net, self.programs, None, stores)

    def test_wrong_names(self):
        for store in NO_WORDS + ["c", "d", "e", "x", "u"]:
            stores = {store: ["c", "d"]}
            self.keeps(BadNet, stores, Net, self.programs, None, stores)

    def test_a_process_may_give_its_name(self):
        self.assertEqual(Net(self.programs, None, {"ann": ["c", "d"]}).channels_in("ann"), ["c", "d"])

    def test_a_channel_in_two_stores(self):
        for other in [["d", "e"], ["c", "d"], ("e", "c")]:
            stores = {"s": ["c", "d"], "t": other}
            self.keeps(BadNet, stores, Net, self.programs, None, stores)

    def test_no_dict(self):
        wrong = [value for value in strange_values() if value is not None and type(value) is not dict]
        self.keeps_all(BadNet, wrong + [[("s", ["c", "d"])], {1: 2}], lambda stores: Net(PAIR, None, stores))


class OrderTest(Case):
    def test_arguments_from_left_to_right(self):
        bad = [{"ann": 1}, {"x": 1}, {"s": ["c"]}]
        good = [PAIR, {"c": 1}, {"s": ["c", "d"]}]
        for first_bad in range(3):
            given = good[:first_bad] + bad[first_bad:]
            self.keeps(BadNet, given[first_bad], Net, *given)
        self.keeps(BadNet, bad[1], Net, PAIR, bad[1], {"s": ["c", "d"]})
        self.keeps(BadNet, bad[0], Net, bad[0], {"c": 1}, {"s": ["c", "d"]})


class KeptTest(Case):
    def test_what_was_handed_in_may_change(self):
        programs = dict(PAIR)
        first = {"c": 3}
        channels = ["d", "c"]
        stores = {"s": channels}
        net = Net(programs, first, stores)
        programs["ann"] = work(1)
        programs["eva"] = work(2)
        first["c"] = 4
        first["d"] = 5
        channels.append("x")
        stores["t"] = ["c"]
        del stores["s"]
        self.assertEqual(net, Net(PAIR, {"c": 3}, {"s": ["c", "d"]}))
        self.assertEqual([net.processes, net.stores, net.row("ann")], [("ann", "bob"), ("s",), PAIR["ann"]])
        self.assertEqual([net.first("c"), net.first("d"), net.channels_in("s"), net.least_room("s")],
                         [3, 0, ["c", "d"], 3])

    def test_what_was_handed_in_is_not_changed(self):
        programs, first, channels = dict(PAIR), {"c": 3}, ["d", "c"]
        stores = {"s": channels}
        Net(programs, first, stores)
        self.assertEqual([programs, first, channels, stores], [PAIR, {"c": 3}, ["d", "c"], {"s": ["d", "c"]}])


class EqualTest(Case):
    def test_equal(self):
        one = Net(PAIR, {"c": 1, "d": 2}, {"s": ["c", "d"]})
        other = Net({"bob": PAIR["bob"], "ann": PAIR["ann"]}, {"d": 2, "c": 1}, {"s": ("d", "c")})
        self.assertTrue(one == other)
        self.assertFalse(one != other)

    def test_not_equal(self):
        nets = [
            Net(PAIR), Net(PAIR, {"c": 1}), Net(PAIR, {"c": 2}), Net(PAIR, {"d": 1}), Net(PAIR, None, {"s": ["c", "d"]}),
            Net(PAIR, None, {"t": ["c", "d"]}), Net({**PAIR, "cid": work(1)}), Net({**PAIR, "cid": Row()}),
            Net({"ann": PAIR["ann"], "bob": take("d") + take("c")}), Net({"ann": PAIR["ann"], "eva": PAIR["bob"]}),
            Net({"ann": PAIR["ann"] + send("e"), "bob": PAIR["bob"]}),
        ]
        for index, one in enumerate(nets):
            for place, other in enumerate(nets):
                self.assertEqual(one == other, index == place)
                self.assertEqual(one != other, index != place)

    def test_equal_to_nothing_else(self):
        net = Net(PAIR)
        for other in [PAIR, None, 1, "net", (PAIR, None, None), object(), net.processes]:
            self.assertFalse(net == other)
            self.assertTrue(net != other)


if __name__ == "__main__":
    unittest.main()
