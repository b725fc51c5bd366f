"""Ledgers: prices for the things of a hall, and what its house is by them."""

from fallgain.changes import check_thing, less_prices
from fallgain.errors import NoPrices
from fallgain.family import highest, least_sets, lowest, turning
from fallgain.least import least
from fallgain.pieces import are_prices


class Ledger:
    """A price for each thing of a hall; the hall keeps them in a book, as its deeds change them."""

    def __init__(self, hall):
        self.hall = hall
        self.number = hall.book_opened()

    def set_price(self, thing, price):
        """Give a thing another price; tells the one that it had."""
        check_thing(self.hall.house(), thing)
        if not are_prices((price,), 1):
            raise NoPrices()
        before = self.prices()[thing]
        self.hall.book_written(self.number, thing, price)
        return before

    def prices(self):
        """The prices of all things."""
        return self.hall.book(self.number)

    def paid(self):
        """The hall's house less these prices."""
        return less_prices(self.hall.house(), self.prices())

    def least(self):
        """The least set with the lowest number, and a mixture that shows that it is one."""
        return least(self.paid())

    def lowest(self):
        """The set of the things that are in all least sets."""
        return lowest(self.paid())

    def highest(self):
        """The set of the things that are in one or more least sets."""
        return highest(self.paid())

    def least_sets(self):
        """All least sets."""
        return least_sets(self.paid())

    def turning(self, thing):
        """The least worth of the sets with the thing less that of the sets without it."""
        check_thing(self.hall.house(), thing)
        return turning(self.paid(), thing)

    def close(self):
        """Nobody asks this ledger again, so that the hall need not keep its prices."""
        self.hall.book_closed(self.number)
