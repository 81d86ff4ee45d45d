"""Plans in which each store gives and takes, apart from each other, at most so many pairs in a round."""

from movedwhole.moves import check_pairs, rounded_up


class Table:
    """Pairs as places of a table, put into rounds: in a round, each row and each column has at most one."""

    def __init__(self, rows, columns, most):
        self.lines = [(("row",) + row, ("column",) + column) for row, column in zip(rows, columns)]
        self.most = most
        self.taken = {}
        self.plan = [None for row in rows]

    def place_in(self, place, number):
        """Puts the place into the round of this number."""
        self.plan[place] = number
        for line in self.lines[place]:
            self.taken[(line, number)] = place

    def free_round(self, line):
        """The first round in which the line has no place."""
        return min([number for number in range(self.most) if (line, number) not in self.taken])

    def put(self, place):
        """Puts the place into a round, and others into other ones where they are in its way."""
        row, column = self.lines[place]
        number = self.free_round(row)
        self.exchange(column, number, self.free_round(column))
        self.place_in(place, number)

    def exchange(self, column, first, second):
        """Exchanges two rounds, the second one free in the column, on the way of their places that begins there.

        Such a way comes to rows by places of the first round: it never comes to
        a row that has none, and makes the first round free in the column.
        """
        way = []
        line, number = column, first
        while (line, number) in self.taken:
            place = self.taken[(line, number)]
            way.append(place)
            row, other = self.lines[place]
            line = other if line == row else row
            number = first + second - number
        for place in way:
            for line in self.lines[place]:
                del self.taken[(line, self.plan[place])]
        for place in way:
            self.place_in(place, first + second - self.plan[place])


def table_plan(leaving, entering, pairs):
    """Some plan of as few rounds as can be, in which no store gives more than leaving or takes more than entering."""
    check_pairs(len(leaving), pairs)
    givers = [giver for giver, taker in pairs]
    takers = [taker for giver, taker in pairs]
    most = max(rounds_needed(leaving, givers), rounds_needed(entering, takers))
    table = Table(parted(givers, most), parted(takers, most), most)
    for place in range(len(pairs)):
        table.put(place)
    return tuple(table.plan)


def rounds_needed(limits, stores):
    """How many rounds it takes at least if each store occurs in a round at most as often as its limit."""
    return max([rounded_up(stores.count(store), limit) for store, limit in enumerate(limits)])


def parted(stores, most):
    """Each of stores as (store, part), so that no part of a store occurs more often than most."""
    return [(store, stores[:place].count(store) // most) for place, store in enumerate(stores)]
