"""A store: its cells with their numbers, and late ones that are under way to them."""

from widerkeys.editions import edition_of, late_side, row_of
from widerkeys.setups import Setup
from widerkeys.writing import Numbers, first_side, spot_of, written


class Store:
    """What runs are played in. A cell is (column, row)."""

    def __init__(self, world, span):
        self.world = world
        self.setup = Setup(world, span)
        self.holds = self.setup.what_holds()
        # Whether any event was that is not of the cells of the beginning.
        self.started = False
        # (meant, narrow, wide) of each cell that is there, None for an empty side.
        self.stock = {}
        # The late (program, edition, number) of each cell, as they were sent.
        self.under_way = {}
        # The cells that have to be visited before the fill that goes on can end.
        self.unvisited = {}
        self.narrowing = Numbers(world.narrow)

    def twin(self):
        """Another store in which all is as it is here."""
        twin = Store(self.world, self.holds[4])
        twin.enter(self.setup)
        twin.started = self.started
        twin.stock = {cell: self.stock[cell] for cell in self.stock}
        twin.under_way = {cell: list(self.under_way[cell]) for cell in self.under_way}
        twin.unvisited = {cell: True for cell in self.unvisited}
        return twin

    def enter(self, setup):
        self.setup = setup
        self.holds = setup.what_holds()

    def edition(self, program, number):
        """An edition that runs; None if it does not run."""
        if (program, number) not in self.holds[0]:
            return None
        return edition_of(self.world, program, number)

    def put(self, cell, meant, side, number, rule):
        """Writes a number into a side, or both, of a cell; whether it is not refused."""
        _, narrow, wide = self.stock.get(cell, (meant, None, None))
        spot = spot_of(self.world, self.holds, cell[0])
        stands = written(spot, (narrow, wide), side, number, rule, self.narrowing)
        if stands is None:
            return False
        self.stock[cell] = (meant, stands[0], stands[1])
        return True

    def put_row(self, sender, cell, meant, number):
        """Writes a number by the row of writes of a (program, edition); whether it is not refused."""
        _, how, rule, _, _ = self.row_of_writes(sender, cell)
        if not self.put(cell, meant, first_side(how), number, rule):
            return False
        if late_side(how) != "":
            self.under_way.setdefault(cell, []).append((sender[0], sender[1], number))
        return True

    def row_of_writes(self, sender, cell):
        _, _, writes = edition_of(self.world, sender[0], sender[1])
        return row_of(writes, cell[0])

    def await_visits(self, column):
        """From now on each cell of the column waits for a visit."""
        self.unvisited = {cell: True for cell in self.stock if cell[0] == column}

    def empty_side(self, column, side):
        for cell in list(self.stock):
            if cell[0] == column:
                meant, narrow, wide = self.stock[cell]
                self.stock[cell] = (meant, None, wide) if side == "narrow" else (meant, narrow, None)

    def forget_below(self, first):
        """Cells in which a number below first is meant go, with what is late for them."""
        for cell in list(self.stock):
            if self.stock[cell][0] < first:
                del self.stock[cell]
                self.under_way.pop(cell, None)

    def stop_late(self, program, number):
        """What is late of an edition that runs no more goes."""
        for cell in list(self.under_way):
            left = [late for late in self.under_way[cell] if late[:2] != (program, number)]
            self.under_way[cell] = left
