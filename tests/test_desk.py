"""The desk, promise 26."""

import unittest

from neverbrush.bags import how_many_in
from neverbrush.climbs import led_down, led_up
from neverbrush.desk import Desk
from neverbrush.errors import BadText, NothingDone, Unfit
from neverbrush.exchange import exchanged
from neverbrush.forms import counts_in, home, stands
from neverbrush.lots import is_full, least_lot
from neverbrush.seams import rises, seams
from tests import calls, plain
from tests.checks import Checks
from tests.made import ALLEY, DOUBLED_60, LONE, NAMED, SIXTIES, SQUARE, TWIN, Figures, listed, made_cities

NEARLY = (
    "", " ", "  ", "what", "Go", "GO", "go ", " go", "go go", "go 0", "g", "where 1", "wher", "counts 0", "seams 0", "bag 0", "bags",
    "put", "put 0", "put 0 ", "put  0 1", "put 0  1", "put 0 1 ", " put 0 1", "put 0 1 2", "put 00 1", "put 01 1", "put -1 1",
    "put 1000000 1", "put 0 1000000", "put 0 -1000000", "put 0 01", "put 0 -01", "put 0 -0", "put 0 --1", "put 0 -", "put 0 +1",
    "put 0 1.", "put x 1", "put 0 x", "put 0 1#", "put 0\t1", "put +0 1", "put 0 1e3", "put 0 0x1", "put 0 1_0", "put 0 00", "put - 1",
    "swap", "swap ", "swap 00", "swap 01", "swap -1", "swap -0", "swap 1000000", "swap 0 0", "swap  0", "swap 0 ", "swap x", "swap 0x",
    "rise", "rise 00", "rise -1", "rise 1 1", "rise 0000000", "Rise 0", "sink", "sink 00", "sink -1", "sink 0 ", "sink 1.0", "sinks 0",
    "road", "road 00", "road -1", "road 0 0", "road west 0 s", "road 1234567", "undo", "redo", "lot", "table", "# go", "go #", "go\t",
    "swap\t0", "put 0 - 1", "counts\r", "where?",
)


class Model:
    """A desk by own states: all of them in a row, and the place in it."""

    def __init__(self, city):
        self.city = city
        self.row = [(least_lot(city), (0,) * plain.size(city))]
        self.at = 0

    def say(self, text):
        state, answers = self.row[self.at], []
        for line in text.split("\n"):
            state, answer = self.step(state, line.split(" "))
            answers.append(answer)
        if "done" in answers:
            self.row = self.row[:self.at + 1] + [state]
            self.at += 1
        return tuple(answers)

    def step(self, state, told):
        lot, table = state
        name, numbers = told[0], [int(word) for word in told[1:]]
        if name == "put":
            if numbers[0] >= len(table):
                return state, "no crossing"
            return (lot, table[:numbers[0]] + (numbers[1],) + table[numbers[0] + 1:]), "done"
        if name in ("swap", "road"):
            if numbers[0] >= len(lot):
                return state, "no road"
            road = lot[numbers[0]]
            return (state, "{} {} {}".format(*road)) if name == "road" else ((exchanged(self.city, lot, road), table), "done")
        if name in ("rise", "sink"):
            steps, led, lacks = {"rise": (rises, led_up, "no rise"), "sink": (seams, led_down, "no seam")}[name]
            found = steps(self.city, lot)
            if numbers[0] >= len(found):
                return state, lacks
            return (led(self.city, lot, found[numbers[0]]), table), "done"
        if name == "go":
            return (home(self.city, table), table), "done"
        return state, {"where": lambda: stands(self.city, lot, table), "seams": lambda: str(len(seams(self.city, lot))),
                       "counts": lambda: " ".join(map(str, counts_in(self.city, lot, table))),
                       "bag": lambda: str(how_many_in(self.city, table))}[name]()

    def undo(self):
        self.at -= 1
        return self.at

    def redo(self):
        self.at += 1
        return self.at


def made_line(figures, many):
    number = figures.one_of((0, figures.below(many), figures.below(many), many - 1, many, many + 1, 999999))
    value = figures.one_of((0, 1, -1, figures.between(-9, 9), 999999, -999999))
    return figures.one_of((f"put {number} {value}", f"put {number} {value}", f"swap {number}", f"rise {number}", f"sink {number}",
                           f"sink {number}", "go", "where", "counts", f"road {number}", "seams", "bag", "where"))


class Desks(Checks):
    def same(self, desk, model):
        self.assertEqual((desk.lot(), desk.table()), model.row[model.at])
        self.assertEqual(desk.city(), model.city)

    def test_beside_own_states(self):
        figures = Figures(261)
        for city in list(NAMED) + made_cities(8, 9, 262):
            desk, model = Desk(city), Model(city)
            self.same(desk, model)
            for _ in range(60):
                kind = figures.below(5)
                if kind == 0:
                    self.back(desk, model, desk.undo, model.undo, model.at > 0)
                elif kind == 1:
                    self.back(desk, model, desk.redo, model.redo, model.at + 1 < len(model.row))
                else:
                    text = "\n".join(made_line(figures, plain.size(city)) for _ in range(figures.between(1, 4)))
                    self.assertEqual(desk.say(text), model.say(text))
                self.same(desk, model)
                self.assertIs(is_full(city, desk.lot()), True)
            self.to_the_ends(desk, model)

    def back(self, desk, model, function, own, is_there):
        if is_there:
            self.assertEqual(function(), own())
        else:
            self.raises(NothingDone, {}, function)

    def to_the_ends(self, desk, model):
        while model.at > 0:
            self.assertEqual(desk.undo(), model.undo())
            self.same(desk, model)
        self.raises(NothingDone, {}, desk.undo)
        self.assertEqual((desk.lot(), desk.table()), (least_lot(model.city), (0,) * plain.size(model.city)))
        while model.at + 1 < len(model.row):
            self.assertEqual(desk.redo(), model.redo())
            self.same(desk, model)
        self.raises(NothingDone, {}, desk.redo)
        self.same(desk, model)

    def test_sixty(self):
        figures = Figures(263)
        for city in SIXTIES:
            desk, model = Desk(city), Model(city)
            for _ in range(12):
                text = "\n".join(made_line(figures, 60) for _ in range(5))
                self.assertEqual(desk.say(text), model.say(text))
                self.same(desk, model)
            text = "\n".join([f"put {k} {(-1) ** k * (999999 - k)}" for k in range(60)] + ["go", "where", "counts", "bag", "seams"])
            self.assertEqual(desk.say(text), model.say(text))
            self.to_the_ends(desk, model)

    def test_each_answer(self):
        desk = Desk(SQUARE)
        for text, answer in (
                ("where", "wall"), ("counts", "0 0 0 0"), ("bag", "0"), ("seams", "0"), ("road 0", "W 0 ESS"), ("road 3", "W 2 S"),
                ("road 4", "no road"), ("road 999999", "no road"), ("swap 4", "no road"), ("rise 4", "no rise"), ("sink 0", "no seam"),
                ("put 4 0", "no crossing"), ("put 999999 -999999", "no crossing"), ("put 0 0", "done"), ("go", "done"), ("go", "done"),
                ("put 3 -5", "done"), ("where", "out"), ("counts", "0 0 -5 0"), ("bag", "5"), ("go", "done"), ("where", "wall"),
                ("seams", "1"), ("put 3 0", "done"), ("go", "done"), ("sink 0", "no seam"), ("rise 4", "no rise"),
                ("rise 3", "done"), ("seams", "1"), ("sink 1", "no seam"), ("sink 0", "done"), ("seams", "0"),
                ("put 3 999999", "done"), ("put 0 -999999", "done")):
            with self.subTest(text):
                self.assertEqual(desk.say(text), (answer,))
        self.assertEqual(desk.table(), (-999999, 0, 0, 999999))
        lone = Desk(LONE)
        self.assertEqual(lone.say("put 0 -1\ncounts\nwhere\nswap 0\ncounts\nwhere\nseams\nroad 0\nsink 0\nrise 0\nbag"),
                         ("done", "-1", "out", "done", "1", "in", "1", "N 0 E", "done", "done", "1"))
        self.assertEqual(lone.undo(), 0)
        self.assertEqual((lone.lot(), lone.table()), ((("W", 0, "S"),), (0,)))

    def test_nearly_right_lines(self):
        for text in NEARLY:
            with self.subTest(text):
                desk = Desk(SQUARE)
                desk.say("put 1 7")
                state = (desk.lot(), desk.table())
                for own, line in ((text, 0), ("go\n" + text, 1), ("put 0 1\nswap 0\n" + text + "\ngo", 2), (text + "\n" + text, 0),
                                  ("rise 0\n" + text + "\n\n", 1), ("rise 0\ngo\n", 2), ("\ngo", 0), ("go\n\ngo", 1)):
                    self.raises(BadText, {"line": line}, desk.say, own)
                    self.assertEqual((desk.lot(), desk.table()), state)
                self.assertEqual(desk.undo(), 0)

    def test_what_ends_what_could_be_done_once_more(self):
        desk = Desk(ALLEY)
        self.raises(NothingDone, {}, desk.undo)
        self.raises(NothingDone, {}, desk.redo)
        desk.say("put 0 0")
        desk.say("go")
        desk.say("put 9 9\nrise 9\nsink 9\nroad 9\nswap 9\nwhere")
        self.assertEqual([desk.undo(), desk.undo()], [1, 0])
        desk.say("where\ncounts\nseams\nbag\nroad 0\nput 3 1\nswap 3\nrise 3\nsink 0")
        self.raises(BadText, {"line": 1}, desk.say, "put 0 5\n")
        self.assertEqual([desk.redo(), desk.redo()], [1, 2])
        self.raises(NothingDone, {}, desk.redo)
        desk.undo()
        desk.say("rise 9\ngo\nrise 9")
        self.raises(NothingDone, {}, desk.redo)
        self.assertEqual([desk.undo(), desk.undo()], [1, 0])
        self.raises(NothingDone, {}, desk.undo)
        desk.say("put 1 4\nput 1 5\nput 1 6")
        self.assertEqual(desk.table(), (0, 6, 0))
        self.assertEqual(desk.undo(), 0)
        self.assertEqual(desk.table(), (0, 0, 0))
        self.assertEqual(desk.redo(), 1)
        self.assertEqual(desk.table(), (0, 6, 0))

    def test_twins(self):
        desk = Desk(SQUARE)
        desk.say("put 0 3")
        desk.say("go\nrise 0")
        desk.say("swap 2")
        desk.undo()
        other = desk.twin()
        self.assertIsInstance(other, Desk)
        self.assertIsNot(other, desk)
        self.assertTrue(other == desk and not other != desk)
        self.assertEqual(other.redo(), 3)
        self.assertTrue(other != desk and not other == desk)
        self.assertEqual([other.undo(), other.undo(), other.undo()], [2, 1, 0])
        self.raises(NothingDone, {}, other.undo)
        self.assertEqual(desk.redo(), 3)
        self.assertEqual([desk.undo(), desk.undo(), desk.undo()], [2, 1, 0])
        self.assertTrue(other == desk)
        other.say("put 3 1")
        self.raises(NothingDone, {}, other.redo)
        self.assertEqual((desk.table(), desk.redo()), ((0, 0, 0, 0), 1))
        third = other.twin().twin()
        third.say("put 3 2")
        self.assertEqual((other.table(), third.table()), ((0, 0, 0, 1), (0, 0, 0, 2)))

    def test_equal_by_city_lot_and_table_alone(self):
        one, other = Desk(SQUARE), Desk(listed(SQUARE))
        self.assertTrue(one == other and not one != other)
        one.say("put 0 5")
        self.assertTrue(one != other)
        one.say("put 0 0")
        self.assertTrue(one == other)
        one.say("rise 1")
        self.assertTrue(one != other)
        one.say("sink 0")
        self.assertTrue(one == other)
        self.assertEqual(one.undo(), 3)
        self.assertTrue(Desk(LONE) != Desk(ALLEY))
        self.assertTrue(Desk((((0, 1),), ((0,), (1,)))) != Desk((((0,), (1,)), ((0, 1),))))
        for thing in (None, 5, SQUARE, "desk", (SQUARE, one.lot(), one.table())):
            self.assertFalse(one == thing)
            self.assertTrue(one != thing)

    def test_city_is_copied(self):
        city = listed(TWIN)
        desk = Desk(city)
        city[0][0].append(9)
        city.reverse()
        self.assertEqual(desk.city(), TWIN)
        self.assertEqual(repr(desk.city()), repr(TWIN))
        self.assertEqual(repr(Desk(city=TWIN).lot()), repr(least_lot(TWIN)))
        self.assertEqual(desk.say(text="go"), ("done",))
        self.assertEqual(Desk(DOUBLED_60).lot(), least_lot(DOUBLED_60))
        self.assertEqual(desk.table(), (0, 0, 0))
        self.assertIsInstance(desk.say("where"), tuple)

    def test_unfit(self):
        for city in calls.CITIES:
            self.unfit(Desk, city)
            with self.assertRaises(Unfit):
                Desk(city=listed(city))

    def test_long_texts(self):
        desk = Desk(LONE)
        self.assertEqual(desk.say("\n".join(["swap 0"] * 2001)), ("done",) * 2001)
        self.assertEqual(desk.lot(), (("N", 0, "E"),))
        self.assertEqual(desk.undo(), 0)
        self.raises(BadText, {"line": 2000}, desk.say, "\n".join(["swap 0"] * 2000 + ["swap"] * 2000))
        for _ in range(300):
            desk.say("swap 0")
        self.assertEqual(desk.undo(), 299)
        self.raises(BadText, {"line": 0}, desk.say, "put 0 " + "9" * 5000)


if __name__ == "__main__":
    unittest.main()
