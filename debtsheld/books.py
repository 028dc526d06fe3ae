"""Books of debts: who can pay for the work of a cell, and for which charges all work can be paid."""

from debtsheld.errors import BadNumber
from debtsheld.forms import are_ascending, is_integer, is_position
from debtsheld.worlds import lines_of, machine_of


def roots(program, world):
    return tuple([cell.root for cell in machine_of(program, world).cells])


def payers(program, world):
    return tuple(debts_of(program, world).able.items())


class Debts:
    """What is to be paid in a world.

    own: the own steps of each deed. works: the work of each cell that was worked out. able: for each of these cells,
    ascending, those who can pay for it, ascending.
    """

    def __init__(self, own, works, able):
        self.own = own
        self.works = works
        self.able = able


def debts_of(program, world):
    machine = machine_of(program, world)
    lines = lines_of(world)
    works = {}
    able = {}
    for k, trace in enumerate(machine.traces):
        deeds = sorted(lines[k])
        for cell, work in trace[2]:
            root = machine.cells[cell].root
            works[cell] = work
            able[cell] = tuple([j for j in deeds if root in lines[j]])
    own = [trace[1] for trace in machine.traces]
    return Debts(own, works, {cell: able[cell] for cell in sorted(able)})


def judge_charge(program, world, c):
    debts = debts_of(program, world)
    check_charge(c)
    for j, own in enumerate(debts.own):
        if own > c:
            return ("own", j)
    ledger = Ledger(debts, c)
    for cell in debts.works:
        lot = pay_off(ledger, cell)
        if lot is not None:
            return ("lot", lot)
    return ("book", payments(ledger))


def check_charge(c):
    if not is_integer(c) or c < 0:
        raise BadNumber(c)


class Ledger:
    """What is paid so far, no deed having more own steps than the charge c.

    able: who can pay for each cell. spare: what each deed can still pay. unpaid: what is left to be paid for each cell.
    paid: for each deed the amounts that it pays, by their cells.
    """

    def __init__(self, debts, c):
        self.able = debts.able
        self.spare = [c - own for own in debts.own]
        self.unpaid = dict(debts.works)
        self.paid = [{} for _ in debts.own]


def payments(ledger):
    rows = [(j, cell, amount) for j, paid in enumerate(ledger.paid) for cell, amount in paid.items()]
    return tuple(sorted(rows))


def pay_off(ledger, cell):
    """Pays all that is left to be paid for a cell, or returns a lot."""
    while ledger.unpaid[cell] > 0:
        j, cell_before, deed_before = search(ledger, cell)
        if j is None:
            # All who can pay for the cells that were found pay for nothing else, and have nothing to spare.
            return tuple(sorted(deed_before))
        shift(ledger, links_to(j, cell_before, deed_before))
    return None


def search(ledger, start):
    """Looks for a deed with something to spare; returns it, or None, and from where each deed and cell was found.

    From a cell it goes to those who can pay for it, and from each of them to the cells that it pays for: if another
    deed pays for such a cell, this one can pay for the cell before it.
    """
    cell_before = {}
    deed_before = {start: None}
    layer = [start]
    while layer:
        reached = [(j, cell) for cell in layer for j in ledger.able[cell]]
        layer = []
        for j, cell in reached:
            if j in cell_before:
                continue
            cell_before[j] = cell
            if ledger.spare[j] > 0:
                return j, cell_before, deed_before
            fresh = [other for other in ledger.paid[j] if other not in deed_before]
            for other in fresh:
                deed_before[other] = j
            layer.extend(fresh)
    return None, cell_before, deed_before


def links_to(j, cell_before, deed_before):
    """The way of a search to the deed j, from its end on.

    It has triples of a deed, the cell that it shall pay for, and the deed that pays for this cell so far: None for the
    cell from which the search began.
    """
    links = []
    while j is not None:
        cell = cell_before[j]
        before = deed_before[cell]
        links.append((j, cell, before))
        j = before
    return links


def shift(ledger, links):
    """Lets the deeds of a way pay as much as they can."""
    last = links[0][0]
    first = links[-1][1]
    bounds = [ledger.paid[before][cell] for _, cell, before in links if before is not None]
    amount = min([ledger.unpaid[first], ledger.spare[last], *bounds])
    ledger.unpaid[first] -= amount
    ledger.spare[last] -= amount
    for j, cell, before in links:
        pay(ledger.paid[j], cell, amount)
        if before is not None:
            pay(ledger.paid[before], cell, -amount)


def pay(paid, cell, amount):
    now_paid = paid.get(cell, 0) + amount
    if now_paid > 0:
        paid[cell] = now_paid
    else:
        del paid[cell]


def charge_holds(program, world, c, thing):
    debts = debts_of(program, world)
    check_charge(c)
    if not isinstance(thing, tuple) or len(thing) != 2:
        return False
    word, shown = thing
    if word == "book":
        return is_book(debts, c, shown)
    if word == "own":
        return is_position(shown, len(debts.own)) and debts.own[shown] > c
    return word == "lot" and is_lot(debts, c, shown)


def is_book(debts, c, thing):
    if not isinstance(thing, tuple) or not all([is_payment(debts, part) for part in thing]):
        return False
    pairs = [(j, cell) for j, cell, _ in thing]
    if not all([a < b for a, b in zip(pairs, pairs[1:])]):
        return False
    charged = list(debts.own)
    paid = {cell: 0 for cell in debts.works}
    for j, cell, amount in thing:
        charged[j] += amount
        paid[cell] += amount
    return paid == debts.works and all([charge <= c for charge in charged])


def is_payment(debts, thing):
    if not isinstance(thing, tuple) or len(thing) != 3 or not all([is_integer(part) for part in thing]):
        return False
    j, cell, amount = thing
    return cell in debts.able and j in debts.able[cell] and amount >= 1


def is_lot(debts, c, thing):
    if not are_ascending(thing) or not all([cell in debts.works for cell in thing]):
        return False
    # No work at all is above nothing, so the empty tuple is no lot.
    return work_of(debts, thing) > sum([max(c - debts.own[j], 0) for j in able_for(debts, thing)])


def work_of(debts, cells):
    return sum([debts.works[cell] for cell in cells])


def able_for(debts, cells):
    """Those who can pay for at least one of the cells."""
    return sorted({j for cell in cells for j in debts.able[cell]})


def least_charge(program, world):
    debts = debts_of(program, world)
    c = max(debts.own, default=0)
    ledger = Ledger(debts, c)
    for cell in debts.works:
        lot = pay_off(ledger, cell)
        while lot is not None:
            # The charge is raised only as far as the lot demands it, so at the end it is the least one.
            more = charge_for(debts, lot) - c
            c += more
            ledger.spare = [spare + more for spare in ledger.spare]
            lot = pay_off(ledger, cell)
    return c


def charge_for(debts, lot):
    """The least charge, from all own steps on, for which these cells are no lot."""
    deeds = able_for(debts, lot)
    needed = work_of(debts, lot) + sum([debts.own[j] for j in deeds])
    return -(-needed // len(deeds))
