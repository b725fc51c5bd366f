"""Halls: houses that are changed by deeds, which can be taken back, with the books of their ledgers."""

from fallgain.changes import added, granted, priced, together, turned, with_thing, without
from fallgain.errors import NothingBack

MOST_BACK = 60


def less_one(prices, thing):
    """The prices without that of the thing."""
    return prices[:thing] + prices[thing + 1:]


def joined(prices, one, other):
    """The prices where the things one and other are one thing, which has the lesser's number."""
    lesser, greater = min(one, other), max(one, other)
    rest = less_one(prices, greater)
    return rest[:lesser] + (prices[one] + prices[other],) + rest[lesser + 1:]


class Hall:
    """A house as it is now, a book of prices for each ledger, and how both were ahead of the last deeds."""

    def __init__(self, house):
        self.now = house
        self.books = {}
        self.past = []
        self.opened = 0

    def house(self):
        """The house as it is now."""
        return self.now

    def become(self, house, change):
        """A deed: the house is this one, and change tells each book's prices by those ahead of the deed."""
        self.past.append((self.now, self.books))
        if len(self.past) > MOST_BACK:
            del self.past[0]
        self.now = house
        self.books = {number: change(prices) for number, prices in self.books.items()}

    def come(self, worths):
        """One more thing, the last; tells its number."""
        self.become(with_thing(self.now, worths), lambda prices: prices + (0,))
        return self.now[0] - 1

    def go(self, thing):
        """The thing is left out."""
        self.become(without(self.now, thing), lambda prices: less_one(prices, thing))

    def grant(self, thing):
        """The thing is granted."""
        self.become(granted(self.now, thing), lambda prices: less_one(prices, thing))

    def join(self, one, other):
        """Two things are one."""
        self.become(together(self.now, one, other), lambda prices: joined(prices, one, other))

    def pay(self, prices):
        """Each set has its worth less the prices of its things."""
        self.become(priced(self.now, prices), lambda kept: kept)

    def turn(self):
        """Each set has the worth of the rest, less that of all things."""
        self.become(turned(self.now), lambda prices: tuple([-price for price in prices]))

    def add(self, other):
        """Each set has its worth in another house, too."""
        self.become(added(self.now, other), lambda prices: prices)

    def back(self):
        """Take the last deed back; tells how many still can be."""
        if len(self.past) == 0:
            raise NothingBack()
        house, books = self.past.pop()
        # A ledger that was opened behind that deed has no book from ahead of it.
        blank = (0,) * house[0]
        self.now = house
        self.books = {number: books.get(number, blank) for number in self.books}
        return len(self.past)

    def deeds(self):
        """How many deeds can be taken back."""
        return len(self.past)

    def copied(self):
        """A hall of its own, made of the house as it is now."""
        return Hall(self.now)

    def book_opened(self):
        """A new book with a price of 0 for each thing; tells its number."""
        self.opened += 1
        self.books[self.opened] = (0,) * self.now[0]
        return self.opened

    def book_closed(self, number):
        """The book is kept no longer."""
        del self.books[number]

    def book(self, number):
        """The prices of a book."""
        return self.books[number]

    def book_written(self, number, thing, price):
        """The thing has this price in the book from now on."""
        prices = self.books[number]
        self.books[number] = prices[:thing] + (price,) + prices[thing + 1:]
