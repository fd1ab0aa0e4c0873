"""[14], [15] and [4] (d): what a course is, how courses are joined and repeated, and whether they are right."""

import itertools

from leastrooms.courses import Course, follow, movers_of
from leastrooms.errors import BadCourse, NotRight
from leastrooms.moments import begin
from leastrooms.nets import Net
from leastrooms.rooms import Rooms, without_limit
from leastrooms.rows import Row, forever, loop, send, take, work
from leastrooms.runs import run
from tests.helping import Case, Strange, chance_net, chance_rooms, chances, strange_values
from tests.playing import play

FAR = 10 ** 30
MOST = 10 ** 200


def times(goes, *items):
    return ("times", goes, tuple(items))


def deep(depth):
    item = "ann"
    for _ in range(depth):
        item = times(2, item)
    return item


WRONG_ITEMS = [
    None, True, 5, 1.5, "", "Ann", "an n", "abcdefghi", b"ann", (), ("ann",), ["ann"], ("times",), ("times", 2),
    ("times", 2, ()), ("times", 2, []), ("times", 2, ["ann"]), ("times", 2, "ann"), ("times", 2, ("ann",), ()),
    ["times", 2, ("ann",)], ("Times", 2, ("ann",)), (Strange(), 2, ("ann",)), ("times", 2, (Strange(),)), Strange(),
    times(0, "ann"), times(-1, "ann"), times(MOST + 1, "ann"), times(True, "ann"), times(False, "ann"),
    times(1.0, "ann"), times("2", "ann"), times(Strange(), "ann"), times(2, "Ann"), times(2, times(0, "ann")),
    times(2, ()), times(2, times(2, None)), deep(41), {"ann": 1}, Course(["ann"]),
]


class CourseTest(Case):
    def test_items_that_make_a_course(self):
        for items in [[], (), ["ann"], ("ann", "bob"), ["times"], [times(1, "ann")], [times(MOST, "ann", "bob")],
                      ["ann", times(None, "ann")], [times(2, times(3, "ann"), "bob"), "abcdefgh"], [deep(40)],
                      [times(None, times(3, "ann"), "zed")], ["ann"] * 2000, [times(2, *["ann"] * 1999)]]:
            course = Course(items)
            self.assertEqual(course.content, tuple(items))
            self.assertIs(type(course.content), tuple)
        self.assertEqual(Course().content, ())
        self.assertEqual(Course(items=["ann"]).size, 1)

    def test_items_that_make_none(self):
        for item in WRONG_ITEMS:
            for items in [[item], (item,), ["ann", item], (item, "ann"), [times(2, "ann", item)], [times(None, item)]]:
                with self.subTest(item=str(item)[:60]):
                    self.keeps(BadCourse, items, Course, items)

    def test_values_that_make_none(self):
        values = [value for value in strange_values() if value not in ((), [], ("send",), ("send", "c"))]
        self.keeps_all(BadCourse, values + ["ann", {"ann": 1}, Course(["ann"]), iter(["ann"])], Course)

    def test_none_only_in_the_end(self):
        endless = times(None, "ann")
        for items in [[endless, "ann"], [endless, endless], [times(2, endless)], ["ann", times(None, endless)],
                      [times(None, "bob", endless)], [endless, times(2, "ann")], [times(3, "ann", endless), endless]]:
            self.keeps(BadCourse, items, Course, items)

    def test_too_many_and_too_deep(self):
        for items in [["ann"] * 2001, [times(2, *["ann"] * 2000)], [times(2, *["ann"] * 1000), *["ann"] * 1000],
                      [times(2, *[times(2, "ann")] * 1000)]]:
            self.keeps(BadCourse, items, Course, items)
        self.assertEqual(Course([times(2, *["ann"] * 999), *["ann"] * 1000]).size, 2000)
        self.assertEqual(Course([times(None, deep(39))]).size, 41)
        around = [times(None, deep(40))]
        self.keeps(BadCourse, around, Course, around)
        # So many items that no one could count them one by one.
        wide = "ann"
        for _ in range(30):
            wide = times(2, *[wide] * 50)
        self.keeps_equal(BadCourse, [wide], Course, [wide])

    def test_sizes_and_steps(self):
        for items, size, total in [([], 0, 0), (["ann", "zed"], 2, 2), ([times(5, "ann", times(3, "bob"))], 4, 20),
                                   ([times(MOST, "ann")], 2, MOST), (["ann", times(None, "bob")], 3, None),
                                   ([times(FAR, times(FAR, "ann", "bob"), "ann")], 5, 2 * FAR * FAR + FAR)]:
            course = Course(items)
            self.assertEqual(course.size, size)
            self.assertEqual(course.total_steps, total)
        self.assertEqual(Course([deep(40)]).total_steps, 2 ** 40)

    def test_steps_one_by_one(self):
        course = Course(["zed", times(2, "ann", times(3, "bob")), "cid"])
        self.assertEqual(list(course.steps()), ["zed"] + ["ann", "bob", "bob", "bob"] * 2 + ["cid"])
        self.assertEqual(list(Course().steps()), [])
        far = Course([times(MOST, times(MOST, "ann"), "bob")])
        self.assertEqual(list(itertools.islice(far.steps(), 5)), ["ann"] * 5)
        endless = Course(["zed", times(None, "ann", times(2, "bob"))])
        self.assertEqual(list(itertools.islice(endless.steps(), 9)), ["zed"] + ["ann", "bob", "bob"] * 2 + ["ann", "bob"])

    def test_join(self):
        one, other = Course(["ann", times(2, "bob")]), Course(["cid"])
        self.assertEqual((one + other).content, ("ann", times(2, "bob"), "cid"))
        self.assertEqual(one.content, ("ann", times(2, "bob")))
        self.assertEqual(one + Course(), one)
        self.keeps_all(BadCourse, strange_values() + [("ann",), ["ann"], "ann"], lambda value: one + value)
        endless = Course([times(None, "ann")])
        self.assertEqual((one + endless).total_steps, None)
        self.keeps_equal(BadCourse, endless.content + one.content, lambda: endless + one)
        many = Course(["ann"] * 1001)
        self.keeps_equal(BadCourse, ("ann",) * 2002, lambda: many + many)

    def test_repeat(self):
        one = Course(["ann", times(2, "bob")])
        self.assertEqual((one * 5).content, (times(5, "ann", times(2, "bob")),))
        self.assertEqual((one * MOST).content, (times(MOST, *one.content),))
        self.assertEqual((one * None).content, (times(None, *one.content),))
        for goes in [0, -1, MOST + 1, True, False, 1.0, "2", (), [2]]:
            self.keeps_equal(BadCourse, (times(goes, *one.content),), lambda: one * goes)
        self.keeps_equal(BadCourse, (("times", 2, ()),), lambda: Course() * 2)
        endless = one * None
        self.keeps_equal(BadCourse, (("times", 2, endless.content),), lambda: endless * 2)
        deepest = Course([deep(40)])
        self.keeps_equal(BadCourse, (("times", 2, deepest.content),), lambda: deepest * 2)
        full = Course(["ann"] * 2000)
        self.keeps_equal(BadCourse, (("times", 3, full.content),), lambda: full * 3)

    def test_equal(self):
        self.assertEqual(Course(["ann"]), Course(("ann",)))
        self.assertNotEqual(Course(["ann"]), Course(["bob"]))
        self.assertNotEqual(Course(["ann", "ann"]), Course([times(2, "ann")]))
        for other in [("ann",), ["ann"], "ann", None, Row()]:
            self.assertFalse(Course(["ann"]) == other)

    def test_what_is_handed_in_stays(self):
        items = ["ann", times(2, "bob")]
        course = Course(items)
        items.append("cid")
        self.assertEqual(course.size, 3)
        self.assertEqual(course.content, ("ann", times(2, "bob")))


class FollowTest(Case):
    def test_the_example(self):
        net = Net({"ann": send("c") * FAR, "bob": take("c") * FAR})
        course = Course(["ann", "bob"]) * (FAR - 1) + Course(["ann", "bob"])
        last = follow(begin(net, 0, Rooms({"c": 1})), course)
        self.assertEqual([course.total_steps, last.place("ann"), last.level("c")], [2 * FAR, (), 0])

    def test_no_course(self):
        now = begin(Net({"ann": send("c")}), 0, Rooms({"c": 1}))
        self.keeps_all(BadCourse, strange_values() + [("ann",), ["ann"], "ann"], lambda value: follow(now, value))
        self.keeps_all(BadCourse, strange_values() + [("ann",), ["ann"], "ann"], movers_of)

    def test_first_wrong_item(self):
        net = Net({"ann": send("c") * 5, "bob": take("c") * 3})
        start = begin(net, 0, Rooms({"c": 3}))
        for items, index in [(["bob"], 0), (["ann", "bob", "bob"], 2), (["ann", "zed"], 1), ([times(4, "ann")], 0),
                             (["ann", times(2, "ann"), "ann"], 2), (["ann", times(1, "zed")], 1),
                             (["ann", times(2, "ann", "bob"), times(1, times(2, "bob"))], 2)]:
            self.keeps_equal(NotRight, index, follow, start, Course(items))
        self.assertEqual(follow(start, Course()), start)
        self.assertEqual(follow(start, Course(["ann", "ann", "bob"])), start >> "ann" >> "ann" >> "bob")
        self.assertEqual(start, begin(net, 0, Rooms({"c": 3})))

    def test_an_item_that_leaves_its_loop(self):
        net = Net({"ann": loop(5, send("c")) + send("d") * 3 + loop(2, send("c")), "bob": take("c")})
        start = begin(net, 0, without_limit(net))
        self.assertEqual(follow(start, Course([times(4, "ann")])).place("ann"), (0, 4, 0))
        self.keeps_equal(NotRight, 0, follow, start, Course([times(5, "ann")]))
        self.keeps_equal(NotRight, 1, follow, start, Course([times(2, "ann"), times(3, "ann")]))
        self.assertEqual(follow(start, Course([times(4, "ann"), "ann"])).place("ann"), (1, 0, 0))
        self.keeps_equal(NotRight, 4, follow, start, Course(["ann"] * 4 + [times(1, "ann")]))

    def test_an_item_that_ends_elsewhere(self):
        row = loop("n", send("c") + send("d"))
        start = begin(Net({"ann": row, "bob": take("c"), "cid": take("d")}), 9, Rooms({"c": 20, "d": 20}))
        self.keeps_equal(NotRight, 0, follow, start, Course([times(1, "ann")]))
        self.keeps_equal(NotRight, 1, follow, start, Course(["ann", times(1, "ann", "ann", "ann")]))
        self.assertEqual(follow(start, Course(["ann", times(7, "ann", "ann")])).place("ann"), (0, 7, 1))
        self.keeps_equal(NotRight, 1, follow, start, Course(["ann", times(9, "ann", "ann")]))
        self.keeps_equal(NotRight, 0, follow, start, Course([times(2, "ann", "ann", "bob")]))

    def test_two_numbers_may_not_differ(self):
        start = begin(Net({"ann": loop(3, loop(3, send("c")))}), 0, Rooms({"c": None}))
        self.keeps_equal(NotRight, 0, follow, start, Course([times(1, "ann", "ann", "ann", "ann")]))
        whole = times(2, times(2, "ann"), "ann")
        self.assertEqual(follow(start, Course([whole])).place("ann"), (0, 2, 0, 0, 0))
        self.keeps_equal(NotRight, 0, follow, start, Course([times(3, times(2, "ann"), "ann")]))
        self.keeps_equal(NotRight, 0, follow, start, Course([times(2, times(3, "ann"))]))

    def test_the_last_go(self):
        net = Net({"ann": loop(FAR, send("c", 2)), "bob": loop(FAR, take("c"))})
        room = 10 ** 12
        start = begin(net, 0, Rooms({"c": room}))
        goes = room - 1
        self.assertEqual(follow(start, Course([times(goes, "ann", "bob")])).level("c"), goes)
        self.keeps_equal(NotRight, 0, follow, start, Course([times(goes + 1, "ann", "bob")]))
        filled = Course([times(goes, "ann", "bob")])
        self.assertEqual(follow(start, filled + Course([times(goes, "bob")])).level("c"), 0)
        self.keeps_equal(NotRight, 1, follow, start, filled + Course([times(goes + 1, "bob")]))

    def test_the_last_go_of_an_inner_item(self):
        net = Net({"ann": loop(50, loop(10, send("c"))), "bob": loop(50, loop(7, take("c")))})
        start = begin(net, 0, Rooms({"c": 100}))
        item = (times(9, "ann"), "ann", times(6, "bob"), "bob")
        # Each go leaves 3 more, and has 10 more in between: 31 goes reach 30 * 3 + 10.
        self.assertEqual(follow(start, Course([times(31, *item)])).level("c"), 93)
        self.keeps_equal(NotRight, 0, follow, start, Course([times(32, *item)]))

    def test_without_end(self):
        net = Net({"ann": work(1) + forever(send("c")), "bob": take("c") + forever(take("c") + work(2))})
        start = begin(net, 0, Rooms({"c": 2}))
        ahead = ["ann", "ann", "bob"]
        course = Course(ahead + [times(None, "ann", "bob", "bob")])
        self.assertEqual(follow(start, course), start >> "ann" >> "ann" >> "bob")
        self.assertEqual(movers_of(course), ["ann", "bob"])
        self.assertEqual(movers_of(Course(ahead)), [])
        self.assertEqual(movers_of(Course(["zed", times(None, "cid", times(3, "ann", "cid"))])), ["ann", "cid"])
        for items in [["ann", "bob"], ["ann"], ["bob", "bob"], ["ann", "ann", "bob", "bob"], ["zed"]]:
            self.keeps_equal(NotRight, 3, follow, start, Course(ahead + [times(None, *items)]))
        self.keeps_equal(NotRight, 0, follow, start, Course([times(None, "ann")]))

    def test_without_end_only_in_a_forever(self):
        start = begin(Net({"ann": loop(FAR, work(1)), "bob": forever(work(2))}), 0, Rooms({}))
        self.keeps_equal(NotRight, 0, follow, start, Course([times(None, "ann")]))
        self.keeps_equal(NotRight, 0, follow, start, Course([times(None, "ann", "bob")]))
        # The other one could do a step behind it.
        self.keeps_equal(NotRight, 0, follow, start, Course([times(None, "bob")]))
        done = Course([times(FAR - 1, "ann"), "ann", times(None, "bob")])
        self.assertEqual(follow(start, done).place("ann"), ())

    def test_levels_that_grow_without_end(self):
        for taker, room, index in [({}, None, None), ({}, 5, 0), ({"bob": work(1)}, None, 0),
                                   ({"bob": take("d") + take("c")}, None, None), ({"bob": take("c", 9)}, None, 0),
                                   ({"bob": take("c", 9)}, 9, 0)]:
            net = Net({"ann": forever(send("c")), **taker})
            start = begin(net, 0, Rooms({store: room for store in net.stores}))
            course = Course([times(None, "ann")])
            with self.subTest(taker=taker, room=room):
                if index is None:
                    self.assertEqual(follow(start, course), start)
                else:
                    self.keeps_equal(NotRight, index, follow, start, course)

    def test_a_level_that_grows_and_a_taker_that_moves(self):
        net = Net({"ann": forever(send("c", 2)), "bob": forever(take("c"))})
        course = Course([times(None, "ann", "bob")])
        self.assertEqual(follow(begin(net, 0, Rooms({"c": None})), course).level("c"), 0)
        self.keeps_equal(NotRight, 0, follow, begin(net, 0, Rooms({"c": MOST})), course)
        less = Net({"ann": forever(send("c")), "bob": forever(take("c"))}, {"c": 9})
        self.keeps_equal(NotRight, 0, follow, begin(less, 0, Rooms({"c": None})), Course([times(None, "ann", "bob", "bob")]))

    def test_up_to_the_greatest_number_of_goes(self):
        start = begin(Net({"ann": forever(send("c"))}), 0, Rooms({"c": None}))
        self.assertEqual(follow(start, Course([times(MOST, "ann")])).level("c"), MOST)
        self.assertEqual(follow(start, Course([times(MOST, times(MOST, "ann"))])).level("c"), MOST * MOST)
        tight = begin(Net({"ann": forever(send("c"))}), 0, Rooms({"c": MOST}))
        self.assertEqual(follow(tight, Course([times(MOST, "ann")])).level("c"), MOST)
        self.keeps_equal(NotRight, 0, follow, tight, Course([times(MOST, "ann", "ann")]))

    def test_courses_by_chance(self):
        many = {True: 0, False: 0}
        for chance in chances(500, 41):
            net = chance_net(chance, chance.choice((0, 0.5)))
            n, rooms = chance.randint(0, 4), chance_rooms(chance, net)
            items = list(run(net, n, rooms).course.content)
            for _ in range(4):
                start = begin(net, n, rooms)
                expected = play(start, items)
                if isinstance(expected, int):
                    self.keeps_equal(NotRight, expected, follow, start, Course(items))
                else:
                    self.assertEqual(follow(start, Course(items)), expected)
                many[isinstance(expected, int)] += 1
                items = changed(chance, items, net)
        self.assertGreater(min(many.values()), 300)


def changed(chance, items, net):
    """Items a little otherwise, that still make a course."""
    items = list(items)
    at = chance.randrange(len(items) + 1)
    kind = chance.random()
    if at < len(items) and not isinstance(items[at], str) and items[at][1] is not None and kind < 0.7:
        _, goes, inner = items[at]
        if kind < 0.3:
            items[at] = times(max(1, goes + chance.choice((-1, 1))), *inner)
        else:
            items[at] = times(goes, *(changed(chance, inner, net) or ["ann"]))
    elif kind < 0.8 and at < len(items):
        del items[at]
    elif at < len(items):
        items.insert(at, chance.choice([chance.choice(net.processes), items[at] if isinstance(items[at], str) else "ann"]))
    if items and kind > 0.95 and not isinstance(items[-1], str):
        items[-1] = times(None, *[item for item in items[-1][2] if isinstance(item, str)] or ["ann"])
    return items


if __name__ == "__main__":
    import unittest
    unittest.main()
