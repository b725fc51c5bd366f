"""The desk: point 34."""

import random
import unittest

from examples import EDGE, FAR, nested, no_numbers, noughts
from fallgain.changes import added
from fallgain.desk import Desk
from fallgain.errors import GainError
from fallgain.family import highest, least_sets, lowest, turning
from fallgain.halls import Hall
from fallgain.ledgers import Ledger
from fallgain.making import house_of
from fallgain.steps import steps_of
from fallgain.texts import read_pieces
from fallgain.two import common

WORDS = ("hall", "open", "copy", "drop", "put", "go", "grant", "join", "turn", "back", "worth", "many", "price", "prices",
         "least", "high", "count", "turning", "steps", "both", "names")
RIGHT = ("hall b 2", "open m a", "copy b a", "drop a", "drop l", "put a sum 1 2 3", "put a meet 5 0 2", "put a whole 5 1",
         "put a cut 5 0 1", "put a bent 5 -5 of 0 1", "put a rank 5 1 2 3", "go a 0", "grant a 1", "join a 0 2", "turn a",
         "back a", "worth a 02", "worth a -", "many a", "price l 0 -5", "prices l", "least l", "high l", "count l",
         "turning l 2", "steps a", "both a a", "names")


class DeskCase(unittest.TestCase):
    def made(self, *lines):
        """A desk that was told these lines."""
        desk = Desk()
        for line in lines:
            self.assertNotEqual(desk.say(line)[:3], "no ", line)
        return desk

    def one(self):
        """A desk with a hall a of three things, in which a deed can be taken back, and a ledger l of it."""
        return self.made("hall a 3", "open l a", "put a bent 9 4 -3 of 0 1 2", "put a cut 2 0 1", "price l 1 7")

    def says(self, desk, line, due):
        told = desk.say(line)
        self.assertIs(type(told), str)
        self.assertEqual(told, due, line)

    def seen(self, desk):
        """All that can be asked of the desk."""
        told = [desk.say("names")]
        for name in told[0].split(" "):
            for line in ("many", "steps", "prices", "least", "high", "count"):
                told.append((name, line, desk.say(f"{line} {name}")))
            for thing in "012345678":
                told.append((name, thing, desk.say(f"worth {name} {thing}"), desk.say(f"turning {name} {thing}")))
        return told

    def says_no(self, desk, line, refusal):
        """The line is refused so, and changes nothing."""
        before = self.seen(desk)
        self.says(desk, line, "no " + refusal)
        self.assertEqual(self.seen(desk), before, line)


class LinesTest(DeskCase):
    def test_each_kind_is_answered(self):
        kinds = set()
        for line in RIGHT:
            told = self.one().say(line)
            self.assertNotIn("no", told.split(" "), line)
            kinds.add(line.split(" ")[0])
        self.assertEqual(kinds, set(WORDS))

    def test_hall(self):
        for many in range(1, 10):
            desk = Desk()
            self.says(desk, f"hall a {many}", "ok")
            self.says(desk, "many a", str(many))
            for thing in range(many):
                self.says(desk, f"worth a {thing}", "0")
            self.says(desk, "worth a 012345678"[:8 + many], "0")
            self.says(desk, "back a", "no NothingBack")
        for word in ("0", "10", "-1", "01", "", "x", "1 1", "+1"):
            self.says_no(self.one(), f"hall b {word}", "NoLine")
            self.says_no(self.one(), f"hall a {word}", "NoLine")

    def test_open_and_prices(self):
        desk = self.made("hall a 3")
        self.says(desk, "open l a", "ok")
        self.says(desk, "prices l", "0 0 0")
        self.says(desk, "price l 1 -5", "0")
        self.says(desk, "price l 1 1000000000", "-5")
        self.says(desk, "price l 1 0", "1000000000")
        self.says(desk, "price l 2 -1000000000", "0")
        self.says(desk, "prices l", "0 0 -1000000000")
        self.says(desk, "open m a", "ok")
        self.says(desk, "prices m", "0 0 0")
        self.says(desk, "names", "a l m")

    def test_copy(self):
        desk = self.one()
        self.says(desk, "copy b a", "ok")
        self.says(desk, "back b", "no NothingBack")
        self.says(desk, "worth b 01", desk.say("worth a 01"))
        self.says(desk, "go b 0", "ok")
        self.says(desk, "many a", "3")
        self.says(desk, "many b", "2")
        self.says(desk, "prices l", "0 7 0")

    def test_put(self):
        lines = ("sum 1 -2 3", "meet 1000000000 0 2", "whole 5 1", "cut 5 2 1", "bent 5 -5 of 0 2", "rank 5 1 2 3",
                 "sum 1000000000 0 -1000000000", "meet 0 0 1 2", "bent 0 of 1")
        desk, house = self.made("hall a 3"), noughts(3)
        for step, line in enumerate(lines):
            self.says(desk, f"put a {line}", "ok")
            house = added(house, house_of(3, read_pieces(3, line + "\n")))
            for number, text in enumerate(("-", "0", "1", "01", "2", "02", "12", "012")):
                self.says(desk, f"worth a {text}", str(house[1][number]))
        for step in range(len(lines) - 1, -1, -1):
            self.says(desk, "back a", str(step))
        self.says(desk, "worth a 012", "0")

    def test_put_no_line(self):
        for rest in ("", " ", "sum", "sum ", "sum x", "Sum 1 2 3", "sum 1  2 3", "sum 1 2 3 ", " sum 1 2 3", "meet 5", "meet 5 1 0",
                     "meet 5 1 1", "meet 5 10", "cut 5 0", "cut 5 0 1 2", "bent of 0", "bent 1 of", "bent 1 of 1 0", "rank 5",
                     "sum 01 2 3", "sum -0 2 3", "sum 10000000000 0 0", "sum -10000000000 0 0", "meet 10000000000 0",
                     "rank 1 10000000000 0 0", "bent 10000000000 of 0", "cut 10000000000 0 1", "sum 1 2 3\n", "none", "put 1"):
            self.says_no(self.one(), f"put a {rest}", "NoLine")
            # Though the name does not stand either.
            self.says_no(self.one(), f"put z {rest}", "NoLine")
        self.says_no(self.one(), "put a", "NoLine")
        self.says_no(self.one(), "put", "NoLine")
        self.says_no(self.one(), "put ", "NoLine")

    def test_put_no_piece(self):
        for rest in ("sum 1 2", "sum 1 2 3 4", "sum 1000000001 0 0", "sum 9999999999 0 0", "meet -1 0", "meet 5 3", "cut 5 1 1",
                     "cut 5 0 9", "bent 1 of 0 1", "bent 1 2 of 0 1", "rank 5 1 2", "rank 5 1 2 1024", "whole 9999999999 0"):
            self.says_no(self.one(), f"put a {rest}", "NoPiece")
            self.says_no(self.one(), f"put z {rest}", "NoName")
            self.says_no(self.one(), f"put l {rest}", "NoName")

    def test_deeds(self):
        hall = Hall(noughts(3))
        desk = self.made("hall a 3", "open l a")
        ledger = Ledger(hall)
        hall.add(house_of(3, (("bent", 7, (9, 4, -3)),)))
        self.says(desk, "put a bent 9 4 -3 of 0 1 2", "ok")
        hall.add(house_of(3, (("cut", 2, 0, 1),)))
        self.says(desk, "put a cut 2 0 1", "ok")
        for line, deed, given in (("go a 1", hall.go, (1,)), ("grant a 0", hall.grant, (0,)), ("turn a", hall.turn, ()),
                                  ("join a 2 0", hall.join, (2, 0)), ("join a 0 1", hall.join, (0, 1))):
            ledger.set_price(2, 5)
            desk.say("price l 2 5")
            deed(*given)
            self.says(desk, line, "ok")
            self.same(desk, hall, ledger)
            self.says(desk, "back a", str(hall.back()))
            self.same(desk, hall, ledger)

    def same(self, desk, hall, ledger):
        house = hall.house()
        self.says(desk, "many a", str(house[0]))
        for number in range(2 ** house[0]):
            self.says(desk, "worth a " + set_word(number), str(house[1][number]))
        self.says(desk, "prices l", " ".join(map(str, ledger.prices())))
        worths = ledger.paid()
        self.says(desk, "least l", f"{min(worths[1])} {set_word(lowest(worths))}")
        self.says(desk, "high l", set_word(highest(worths)))
        self.says(desk, "count l", str(len(least_sets(worths))))
        for thing in range(house[0]):
            self.says(desk, f"turning l {thing}", str(turning(worths, thing)))

    def test_refused_deeds(self):
        for line, refusal in (("go a 3", "NoThing"), ("go a 9", "NoThing"), ("grant a 3", "NoThing"), ("join a 0 3", "NoThing"),
                              ("join a 3 0", "NoThing"), ("join a 1 1", "NoThing"), ("worth a 3", "NoSet"), ("worth a 0129", "NoSet"),
                              ("worth a 0123456789", "NoSet"), ("price l 3 5", "NoThing"), ("price l 3 9999999999", "NoThing"),
                              ("price l 0 1000000001", "NoPrices"), ("price l 0 -1000000001", "NoPrices"),
                              ("price l 0 -9999999999", "NoPrices"), ("turning l 3", "NoThing")):
            self.says_no(self.one(), line, refusal)
        desk = self.made("hall b 1")
        self.says_no(desk, "go b 0", "TooFew")
        self.says_no(desk, "grant b 0", "TooFew")
        self.says_no(desk, "go b 1", "NoThing")
        self.says_no(desk, "join b 0 0", "NoThing")
        self.says_no(desk, "join b 0 1", "NoThing")
        self.says_no(desk, "back b", "NothingBack")

    def test_what_is_refused_cannot_be_taken_back(self):
        desk = self.made("hall a 2", "turn a")
        for line in ("go a 5", "grant a 5", "join a 0 0", "put a sum 1", "put a sum"):
            self.assertEqual(desk.say(line)[:3], "no ")
        self.says(desk, "back a", "0")
        self.says(desk, "back a", "no NothingBack")

    def test_back_of_more_than_sixty(self):
        desk = self.made("hall a 1")
        for step in range(61):
            self.says(desk, "put a sum 1", "ok")
        for left in range(59, -1, -1):
            self.says(desk, "back a", str(left))
        self.says(desk, "back a", "no NothingBack")
        self.says(desk, "worth a 0", "1")

    def test_least_high_count_turning(self):
        desk = self.made("hall a 3", "open l a")
        self.says(desk, "least l", "0 -")
        self.says(desk, "high l", "012")
        self.says(desk, "count l", "8")
        self.says(desk, "turning l 1", "0")
        desk.say("put a sum -5 0 4")
        self.says(desk, "least l", "-5 0")
        self.says(desk, "high l", "01")
        self.says(desk, "count l", "2")
        self.says(desk, "turning l 0", "-5")
        self.says(desk, "turning l 2", "4")
        desk.say("price l 2 10")
        self.says(desk, "least l", "-11 02")
        self.says(desk, "high l", "012")
        desk.say("price l 1 -1")
        self.says(desk, "high l", "02")

    def test_steps(self):
        desk = self.made("hall a 3")
        self.says(desk, "steps a", "0:012")
        desk.say("put a sum 3 -1 3")
        self.says(desk, "steps a", "-1:1 3:012")
        desk = self.made("hall a 3", "put a meet 1 0 1", "put a sum 0 0 5")
        self.says(desk, "steps a", "1/2:01 5:012")
        desk = self.made("hall a 2", "put a whole 7 0 1", "put a sum 2 2")
        self.says(desk, "steps a", "-3/2:01")
        dice = random.Random(1201)
        for turn in range(20):
            many = dice.randint(1, 4)
            desk = self.made(f"hall a {many}")
            house = noughts(many)
            for step in range(3):
                piece = ("meet", dice.randint(0, 9), dice.randint(1, 2 ** many - 1))
                prices = ("sum", tuple(dice.randint(-5, 5) for thing in range(many)))
                desk.say(f"put a meet {piece[1]} " + " ".join(set_word(piece[2])))
                desk.say("put a sum " + " ".join(map(str, prices[1])))
                house = added(house, house_of(many, (piece, prices)))
            steps = steps_of(house, (1,) * many)[0]
            due = [(f"{top}/{bottom}" if bottom > 1 else str(top)) + ":" + set_word(number) for top, bottom, number in steps]
            self.says(desk, "steps a", " ".join(due))

    def test_both(self):
        desk = self.made("hall a 2", "hall b 2", "hall c 3", "put a sum 4 4", "put a whole 2 0 1", "put b sum 3 9")
        self.says(desk, "both a b", "6")
        self.says(desk, "both b a", "6")
        self.says(desk, "both a a", "6")
        self.says(desk, "both b b", "12")
        self.assertEqual(sum(common((2, (0, 4, 4, 6)), (2, (0, 3, 9, 12)))[0]), 6)
        desk.say("put a sum 0 9")
        self.says(desk, "both a b", "12")
        self.says_no(desk, "both a c", "NoFit")
        self.says_no(desk, "both c b", "NoFit")
        self.says(desk, "both c c", "0")

    def test_names(self):
        desk = Desk()
        self.says(desk, "names", "none")
        for line in ("hall b 1", "hall ab 1", "open a b", "open zz b", "copy aaa b", "hall zzzzzzzz 2", "open b b"):
            desk.say(line)
        self.says(desk, "names", "a aaa ab b zz zzzzzzzz")
        for name in ("a", "aaa", "ab", "b", "zz"):
            self.says(desk, f"drop {name}", "ok")
        self.says(desk, "names", "zzzzzzzz")
        self.says(desk, "drop zzzzzzzz", "ok")
        self.says(desk, "names", "none")


def set_word(number):
    return "".join(str(thing) for thing in range(10) if number & 2 ** thing) or "-"


class NoLineTest(DeskCase):
    def test_other_kinds(self):
        desk = self.one()
        for value in [0, 1, FAR, *no_numbers(), nested(29), ["names"], ("names",), {"names": 1}, "", " ", "\n",
                      "x" * 100000, " " * 100000, "names " * 10000, "put a sum " + "1 " * 40000, "put a sum " + "9" * 90000,
                      "price l 0 " + "9" * 90000, "worth a " + "0" * 90000]:
            self.says_no(desk, value, "NoLine")

    def test_a_sign_otherwise(self):
        desk = self.one()
        for line in RIGHT:
            for other in (line + " ", " " + line, line + "\n", "\n" + line, line.replace(" ", "  ", 1), line.upper(),
                          line.replace(" ", "\n", 1), line.capitalize(), line + " x", line + "  ", line + "~"):
                if other != line:
                    self.says_no(desk, other, "NoLine")

    def test_words_more_or_fewer(self):
        desk = self.one()
        for line in RIGHT:
            words = line.split(" ")
            if words[0] != "put":
                self.says_no(desk, line + " 0", "NoLine")
                self.says_no(desk, line + " a", "NoLine")
                if len(words) > 1:
                    self.says_no(desk, " ".join(words[:-1]), "NoLine")
                    self.says_no(desk, " ".join(words[1:]), "NoLine")
                    self.says_no(desk, words[0], "NoLine")

    def test_how_names_are_written(self):
        desk = self.one()
        for name in ("", "A", "a1", "1", "a-b", "a_b", "abcdefghi", "-", "~", "a\n", "aB", "0", "ab.c", "a" * 1000):
            for line in RIGHT:
                words = line.split(" ")
                for at, word in enumerate(words):
                    if at > 0 and word.isalpha() and not (words[0] == "put" and at > 1):
                        other = " ".join(words[:at] + [name] + words[at + 1:])
                        self.says_no(desk, other, "NoLine")
        self.says(desk, "hall abcdefgh 1", "ok")

    def test_how_things_are_written(self):
        desk = self.one()
        for word in ("", "-1", "10", "00", "01", "a", "-", "+1", "0\n", "1.", "x", "012"):
            for line in ("go a T", "grant a T", "join a T 1", "join a 1 T", "price l T 5", "turning l T"):
                self.says_no(desk, line.replace("T", word), "NoLine")

    def test_how_sets_are_written(self):
        desk = self.one()
        for word in ("", "--", "-0", "0-", "10", "00", "021", "0011", "a", "0,1", "+", "01 2", "0-1", "01234567899", "-1"):
            self.says_no(desk, f"worth a {word}", "NoLine")
        self.says(desk, "worth a -", "0")
        for number in range(8):
            self.assertRegex(desk.say("worth a " + set_word(number)), r"\A-?[0-9]+\Z")

    def test_how_numbers_are_written(self):
        desk = self.one()
        for word in ("", "-", "01", "-0", "-01", "+1", "1.", "x", "1_0", "--1", "10000000000", "-10000000000", "1e5", "00",
                     "99999999999", "1\n"):
            self.says_no(desk, f"price l 0 {word}", "NoLine")
        self.says_no(desk, "price l 0 9999999999", "NoPrices")
        self.says_no(desk, "price l 0 -1000000001", "NoPrices")
        self.says(desk, "price l 0 0", "0")
        self.says(desk, "price l 0 -1000000000", "0")

    def test_ahead_of_all_else(self):
        desk = self.one()
        for line in ("go z 10", "worth z 10", "price z 0 01", "hall a 0", "turning a 12", "join l 0 01", "price l 9 x"):
            self.says_no(desk, line, "NoLine")


class NoNameTest(DeskCase):
    LINES = {"hall": ("put {} sum 1 2 3", "go {} 0", "grant {} 0", "join {} 0 1", "turn {}", "back {}", "worth {} 0", "many {}",
                      "steps {}", "both {} a", "both a {}", "open n {}", "copy n {}", "go {} 9", "worth {} 9", "put {} sum 1"),
             "ledger": ("price {} 0 5", "prices {}", "least {}", "high {}", "count {}", "turning {} 0", "price {} 9 9999999999",
                        "turning {} 9"),
             "new": ("hall {} 2", "open {} a", "copy {} a")}

    def test_names_that_do_not_stand(self):
        desk = self.one()
        for line in self.LINES["hall"] + self.LINES["ledger"] + ("drop {}",):
            for name in ("z", "aa", "al", "la", "names", "abcdefgh"):
                self.says_no(desk, line.format(name), "NoName")

    def test_a_ledger_where_a_hall_is_due_and_the_other_way_round(self):
        desk = self.one()
        for line in self.LINES["hall"]:
            self.says_no(desk, line.format("l"), "NoName")
        for line in self.LINES["ledger"]:
            self.says_no(desk, line.format("a"), "NoName")

    def test_names_that_stand_where_they_must_not(self):
        desk = self.one()
        for line in self.LINES["new"]:
            for name in ("a", "l"):
                self.says_no(desk, line.format(name), "NoName")

    def test_the_same_name_twice(self):
        desk = self.one()
        for line in ("open z z", "copy z z", "both z z", "open a a", "copy l l", "open l a", "both l l"):
            self.says_no(desk, line, "NoName")

    def test_dropped(self):
        desk = self.one()
        self.says(desk, "drop l", "ok")
        for line in self.LINES["ledger"] + ("drop {}",):
            self.says_no(desk, line.format("l"), "NoName")
        self.says(desk, "open l a", "ok")
        self.says(desk, "prices l", "0 0 0")
        self.says(desk, "drop a", "ok")
        for line in self.LINES["hall"] + ("drop {}",):
            self.says_no(desk, line.format("a"), "NoName")

    def test_words_of_the_lines_and_beginnings_of_one_another(self):
        desk = Desk()
        for word in WORDS:
            self.says(desk, f"hall {word} 2", "ok")
        self.says(desk, "names", " ".join(sorted(WORDS)))
        for at, word in enumerate(WORDS):
            self.says(desk, f"put {word} sum {at} 1", "ok")
        for at, word in enumerate(WORDS):
            self.says(desk, f"worth {word} 0", str(at))
            self.says(desk, f"both {word} hall", "1")
        for name in ("of", "sum", "meet", "ok", "no", "none", "s", "su", "summ"):
            self.says(desk, f"hall {name} 1", "ok")
        self.says(desk, "put sum sum 5", "ok")
        self.says(desk, "put of bent 3 of 0", "ok")
        self.says(desk, "worth of 0", "3")
        self.says(desk, "worth sum 0", "5")
        self.says(desk, "worth su 0", "0")
        self.says(desk, "drop drop", "ok")
        self.says(desk, "drop drop", "no NoName")
        self.says(desk, "open drop open", "ok")
        self.says(desk, "prices drop", "0 0")
        self.says(desk, "copy copy copy", "no NoName")


class DroppedHallTest(DeskCase):
    def test_its_ledgers_go_on(self):
        desk = self.made("hall a 2", "open l a", "open m a", "put a sum -3 4", "price l 1 9", "turn a")
        self.says(desk, "drop a", "ok")
        self.says(desk, "names", "l m")
        self.says(desk, "prices l", "0 -9")
        self.says(desk, "least m", "-4 1")
        self.says(desk, "price m 0 2", "0")
        self.says(desk, "least m", "-4 1")
        # Its name is free, and a new hall of that name is another one.
        self.says(desk, "hall a 3", "ok")
        self.says(desk, "go a 0", "ok")
        self.says(desk, "prices l", "0 -9")
        self.says(desk, "prices m", "2 0")
        self.says(desk, "open n a", "ok")
        self.says(desk, "prices n", "0 0")
        self.says(desk, "least n", "0 -")

    def test_a_dropped_ledger_leaves_the_others(self):
        desk = self.made("hall a 2", "open l a", "open m a", "price l 0 5", "price m 1 6", "turn a", "drop l")
        self.says(desk, "prices m", "0 -6")
        self.says(desk, "open l a", "ok")
        self.says(desk, "prices l", "0 0")
        self.says(desk, "back a", "0")
        self.says(desk, "prices m", "0 6")
        self.says(desk, "prices l", "0 0")

    def test_opened_and_dropped_often(self):
        desk = self.made("hall a 2")
        for turn in range(3000):
            desk.say("open l a")
            desk.say("drop l")
        # Else each deed would go through the prices of all ledgers that ever were.
        self.assertEqual(len(desk.halls["a"].books), 0)
        for turn in range(300):
            self.says(desk, "turn a", "ok")
        self.says(desk, "back a", "59")


class TooGreatTest(DeskCase):
    def near(self, house):
        """A desk with a hall a of this house, which lines alone would take too long to come to, and a ledger l of it."""
        desk = self.made(f"hall a {house[0]}", "open l a")
        desk.halls["a"].add(house)
        return desk

    def test_put(self):
        desk = self.near((1, (0, EDGE - 5)))
        self.says(desk, "put a sum 5", "ok")
        self.says(desk, "worth a 0", str(EDGE))
        self.says_no(desk, "put a sum 1", "TooGreat")
        self.says_no(desk, "put a meet 1 0", "TooGreat")
        self.says(desk, "put a sum -5", "ok")
        self.says(desk, "back a", "2")

    def test_deeds(self):
        desk = self.near((2, (0, EDGE - 5, EDGE - 5, -EDGE)))
        self.says_no(desk, "turn a", "TooGreat")
        self.says_no(desk, "grant a 0", "TooGreat")
        self.says_no(desk, "grant a 2", "NoThing")
        self.says(desk, "back a", "0")

    def test_ledger(self):
        desk = self.near((1, (0, EDGE - 5)))
        self.says(desk, "price l 0 -5", "0")
        self.says(desk, "least l", "0 -")
        self.says(desk, "price l 0 -6", "-5")
        for line in ("least l", "high l", "count l", "turning l 0"):
            self.says_no(desk, line, "TooGreat")
        self.says_no(desk, "turning l 1", "NoThing")
        self.says(desk, "prices l", "-6")
        self.says(desk, "price l 0 0", "-6")
        self.says(desk, "turning l 0", str(EDGE - 5))


class ManyLinesTest(DeskCase):
    def test_against_halls_and_ledgers(self):
        dice = random.Random(1202)
        refusals = {}
        for turn in range(12):
            desk, known = Desk(), {}
            for step in range(150):
                line = drawn_line(dice)
                due = answer_by_words(known, line)
                self.says(desk, line, due)
                if due.startswith("no "):
                    refusals[due] = refusals.get(due, 0) + 1
        for refusal in ("NoName", "NoThing", "TooFew", "NoSet", "NoFit", "NothingBack", "NoPiece"):
            self.assertGreater(refusals.get("no " + refusal, 0), 2, refusal)

    def test_the_same_question_again(self):
        desk = self.one()
        for line in RIGHT:
            if line.split(" ")[0] in ("worth", "many", "prices", "least", "high", "count", "turning", "steps", "both", "names"):
                self.says(desk, line, desk.say(line))

    def test_two_desks(self):
        one, other = self.one(), Desk()
        self.says(other, "names", "none")
        self.says(other, "hall l 1", "ok")
        self.says(one, "prices l", "0 7 0")


def drawn_line(dice):
    """A line by a few names, drawn by the dice, that is written as a line."""
    name, other = dice.choice("aabc"), dice.choice("aabc")
    thing, more = dice.randint(0, 3), dice.randint(0, 3)
    pieces = ("sum {} {}", "meet {} 0 1", "cut {} 0 1", "bent 5 {} of 0 2", "whole {} 2", "sum {}", "sum {} 1 2")
    return dice.choice((f"hall {name} {thing + 1}", f"open {dice.choice('lm')} {name}", f"copy {name} {other}", f"turn {name}",
                        f"drop {dice.choice('abclm')}", f"put {name} " + dice.choice(pieces).format(dice.randint(-3, 9), more),
                        f"put {name} meet 4 {thing}", f"go {name} {thing}", f"grant {name} {thing}", f"join {name} {thing} {more}",
                        f"back {name}", f"back {name}", f"worth {name} {thing}", f"worth {name} -", f"many {name}", f"steps {name}",
                        f"price {dice.choice('lma')} {thing} {dice.randint(-9, 9)}", f"prices {dice.choice('lm')}",
                        f"least {dice.choice('lm')}", f"high {dice.choice('lmb')}", f"count {dice.choice('lm')}",
                        f"turning {dice.choice('lm')} {thing}", f"both {name} {other}", "names"))


def answer_by_words(known, line):
    """The answer to a line that is written as one, by halls and ledgers in a dict by their names."""
    word, *parts = line.split(" ")
    if word == "names":
        return " ".join(sorted(known)) or "none"
    due = {"hall": "n", "open": "nh", "copy": "nh", "drop": "x", "both": "hh"}
    due.update({ask: "l" for ask in ("price", "prices", "least", "high", "count", "turning")})
    for kind, name in zip(due.get(word, "h"), parts):
        stands = known.get(name)
        kinds = {"n": stands is None, "x": stands is not None, "h": isinstance(stands, Hall), "l": isinstance(stands, Ledger)}
        if not kinds[kind]:
            return "no NoName"
    try:
        return answer_of(known, word, parts)
    except GainError as refusal:
        return "no " + type(refusal).__name__


def answer_of(known, word, parts):
    name = parts[0]
    if word == "hall":
        known[name] = Hall(noughts(int(parts[1])))
    elif word == "open":
        known[name] = Ledger(known[parts[1]])
    elif word == "copy":
        known[name] = known[parts[1]].copied()
    elif word == "drop":
        del known[name]
    elif word == "put":
        many = known[name].house()[0]
        known[name].add(house_of(many, read_pieces(many, " ".join(parts[1:]) + "\n")))
    elif word in ("go", "grant", "join", "turn"):
        getattr(known[name], word)(*map(int, parts[1:]))
    else:
        return answer_of_question(known, word, parts)
    return "ok"


def answer_of_question(known, word, parts):
    one = known[parts[0]]
    if word == "back":
        return str(one.back())
    if word == "price":
        return str(one.set_price(int(parts[1]), int(parts[2])))
    if word == "turning":
        return str(one.turning(int(parts[1])))
    if word in ("prices", "least", "high", "count"):
        lowest_worth = f"{one.paid()[1][one.least()[0]]} {set_word(one.lowest())}"
        told = {"prices": " ".join(map(str, one.prices())), "least": lowest_worth, "high": set_word(one.highest()),
                "count": str(len(one.least_sets()))}
        return told[word]
    return answer_of_hall(known, word, parts)


def answer_of_hall(known, word, parts):
    house = known[parts[0]].house()
    if word == "worth":
        number = 0 if parts[1] == "-" else sum(2 ** int(figure) for figure in parts[1])
        return "no NoSet" if number >= 2 ** house[0] else str(house[1][number])
    if word == "many":
        return str(house[0])
    if word == "both":
        return str(sum(common(house, known[parts[1]].house())[0]))
    steps = steps_of(house, (1,) * house[0])[0]
    return " ".join((f"{top}/{bottom}" if bottom > 1 else str(top)) + ":" + set_word(number) for top, bottom, number in steps)


if __name__ == "__main__":
    unittest.main()
