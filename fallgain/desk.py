"""A desk: halls and ledgers by names, asked by lines of words."""

from fallgain.errors import NoFit, NoPiece, NoPrices, NoSet, NothingBack, NoThing, TooFew, TooGreat
from fallgain.family import lowest
from fallgain.halls import Hall
from fallgain.houses import worth
from fallgain.ledgers import Ledger
from fallgain.making import house_of
from fallgain.sets import things_in
from fallgain.steps import all_steps
from fallgain.two import common
from fallgain.words import read_number, read_parts, read_piece, read_thing, spaced

LETTERS = "abcdefghijklmnopqrstuvwxyz"
LONGEST_NAME = 8
MOST_FIGURES = 10


def read_name(word):
    """The word, where it is written as a name."""
    return word if 1 <= len(word) <= LONGEST_NAME and all([sign in LETTERS for sign in word]) else None


def read_many(word):
    """How many things a hall is made with."""
    many = read_thing(word)
    return None if many == 0 else many


def read_set(word):
    """The set that this word is."""
    return 0 if word == "-" else read_parts(list(word))


def read_price(word):
    """The number that this word is."""
    return read_number(word, MOST_FIGURES)


def read_short_piece(words):
    """The piece that these words are."""
    return read_piece(words, MOST_FIGURES)


READERS = {
    "new": read_name,
    "name": read_name,
    "hall": read_name,
    "ledger": read_name,
    "many": read_many,
    "thing": read_thing,
    "set": read_set,
    "price": read_price,
    "piece": read_short_piece,
}

KINDS = {
    "hall": ("new", "many"),
    "open": ("new", "hall"),
    "copy": ("new", "hall"),
    "drop": ("name",),
    "put": ("hall", "piece"),
    "go": ("hall", "thing"),
    "grant": ("hall", "thing"),
    "join": ("hall", "thing", "thing"),
    "turn": ("hall",),
    "back": ("hall",),
    "worth": ("hall", "set"),
    "many": ("hall",),
    "price": ("ledger", "thing", "price"),
    "prices": ("ledger",),
    "least": ("ledger",),
    "high": ("ledger",),
    "count": ("ledger",),
    "turning": ("ledger", "thing"),
    "steps": ("hall",),
    "both": ("hall", "hall"),
    "names": (),
}


def read_part(kind, part):
    """What a part of a line is, by the kind that is due there; None where it is not written so."""
    read = READERS[kind]
    return read(part)


def parts_of(words):
    """The parts of a line behind its first word, each a word; a piece is one part of several words."""
    return words[1:2] + [words[2:]] if words[0] == "put" else words[1:]


def read_line(thing):
    """The first word of a line, and a list of what its parts are; None where this is no line."""
    words = thing.split(" ") if isinstance(thing, str) else [""]
    if words[0] not in KINDS:
        return None
    kinds, parts = KINDS[words[0]], parts_of(words)
    if len(parts) != len(kinds):
        return None
    values = [read_part(kind, part) for kind, part in zip(kinds, parts)]
    return None if None in values else (words[0], values)


def set_text(members):
    """The word for a set."""
    return "".join([str(thing) for thing in things_in(members)]) if members != 0 else "-"


def step_text(step):
    """The word for a step."""
    top, bottom, members = step
    price = str(top) if bottom == 1 else f"{top}/{bottom}"
    return f"{price}:{set_text(members)}"


def make_hall(desk, name, many):
    """A hall of a house in which each set has the worth 0."""
    desk.halls[name] = Hall((many, (0,) * (1 << many)))
    return "ok"


def make_ledger(desk, name, hall):
    """A ledger of the hall."""
    desk.ledgers[name] = Ledger(hall)
    return "ok"


def make_copy(desk, name, hall):
    """A hall of its own, made of the hall's house."""
    desk.halls[name] = hall.copied()
    return "ok"


def do_drop(desk, name):
    """The hall or ledger stands no more; the ledgers of a hall keep it."""
    if name in desk.halls:
        del desk.halls[name]
    else:
        desk.ledgers[name].close()
        del desk.ledgers[name]
    return "ok"


def do_put(desk, hall, piece):
    """The piece's house is added."""
    hall.add(house_of(hall.house()[0], (piece,)))
    return "ok"


def do_go(desk, hall, thing):
    """The thing is left out."""
    hall.go(thing)
    return "ok"


def do_grant(desk, hall, thing):
    """The thing is granted."""
    hall.grant(thing)
    return "ok"


def do_join(desk, hall, one, other):
    """Two things are one."""
    hall.join(one, other)
    return "ok"


def do_turn(desk, hall):
    """The house is turned."""
    hall.turn()
    return "ok"


def do_back(desk, hall):
    """The last deed is taken back."""
    return str(hall.back())


def tell_worth(desk, hall, members):
    """The worth of a set."""
    return str(worth(hall.house(), members))


def tell_many(desk, hall):
    """How many things there are."""
    return str(hall.house()[0])


def do_price(desk, ledger, thing, price):
    """Another price; tells the one that the thing had."""
    return str(ledger.set_price(thing, price))


def tell_prices(desk, ledger):
    """All prices."""
    return spaced(ledger.prices())


def tell_least(desk, ledger):
    """The least worth, and the things that are in all least sets."""
    house = ledger.paid()
    return f"{min(house[1])} {set_text(lowest(house))}"


def tell_high(desk, ledger):
    """The things that are in one or more least sets."""
    return set_text(ledger.highest())


def tell_count(desk, ledger):
    """How many least sets there are."""
    return str(len(ledger.least_sets()))


def tell_turning(desk, ledger, thing):
    """The price by which the thing is in some least sets and not in others."""
    return str(ledger.turning(thing))


def tell_steps(desk, hall):
    """The steps by weights of 1."""
    house = hall.house()
    return " ".join([step_text(step) for step in all_steps(house, (1,) * house[0])])


def tell_both(desk, one, other):
    """What a greatest row below both houses costs in all."""
    return str(sum(common(one.house(), other.house())[0]))


def tell_names(desk):
    """All names."""
    names = sorted(list(desk.halls) + list(desk.ledgers))
    return " ".join(names) if len(names) > 0 else "none"


ANSWERS = {
    "hall": make_hall,
    "open": make_ledger,
    "copy": make_copy,
    "drop": do_drop,
    "put": do_put,
    "go": do_go,
    "grant": do_grant,
    "join": do_join,
    "turn": do_turn,
    "back": do_back,
    "worth": tell_worth,
    "many": tell_many,
    "price": do_price,
    "prices": tell_prices,
    "least": tell_least,
    "high": tell_high,
    "count": tell_count,
    "turning": tell_turning,
    "steps": tell_steps,
    "both": tell_both,
    "names": tell_names,
}


def answered(desk, word, values):
    """The answer to a line whose names all stand where they must, or the refusal's name."""
    answer = ANSWERS[word]
    try:
        return answer(desk, *values)
    except NoPiece:
        return "no NoPiece"
    except NoSet:
        return "no NoSet"
    except NoThing:
        return "no NoThing"
    except NoPrices:
        return "no NoPrices"
    except NoFit:
        return "no NoFit"
    except TooFew:
        return "no TooFew"
    except TooGreat:
        return "no TooGreat"
    except NothingBack:
        return "no NothingBack"


class Desk:
    """Halls and ledgers by names, all names unlike."""

    def __init__(self):
        self.halls = {}
        self.ledgers = {}

    def found(self, kind, value):
        """What a part of a line stands for; None where a name does not stand that must, or stands where none may."""
        if kind == "hall":
            return self.halls.get(value)
        if kind == "ledger":
            return self.ledgers.get(value)
        if kind == "new" or kind == "name":
            stands = value in self.halls or value in self.ledgers
            return value if stands == (kind == "name") else None
        return value

    def say(self, thing):
        """The answer to a line."""
        line = read_line(thing)
        if line is None:
            return "no NoLine"
        word, values = line
        parts = [self.found(kind, value) for kind, value in zip(KINDS[word], values)]
        return "no NoName" if None in parts else answered(self, word, parts)
