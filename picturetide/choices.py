"""How a band is coded: for each area the leaf of the least price, or a split that costs less; and what that proves."""

from picturetide.basics import is_number
from picturetide.leaves import changed, expected, put_area
from picturetide.pictures import VALUE_LIMIT
from picturetide.quanta import levels
from picturetide.transforms import forward
from picturetide.trees import BLOCK, LEAST, MODES, QUANTA
from picturetide.trees import area_of_block, price_of_leaf, quarters_of


def ways_to_predict(slots, kind, window):
    """All ways to predict an area (mode, slot, dy, dx), in the sequence of the modes' numbers, slots, dy and dx."""
    ways = [(mode, 0, 0, 0) for mode in MODES if mode != "motion"]
    if kind == "key":
        return ways
    steps = range(-window, window + 1)
    for slot, picture in enumerate(slots):
        if picture is not None:
            ways.extend([("motion", slot, dy, dx) for dy in steps for dx in steps])
    return ways


def differences(values, awaited):
    """By how much the values of an area are more than those that are predicted."""
    rows = []
    for row, others in zip(values, awaited):
        rows.append(tuple([value - other for value, other in zip(row, others)]))
    return tuple(rows)


def is_near(values, told, bound):
    """Tell whether values differ from those told by at most bound, and nothing told must be clipped."""
    for row, others in zip(values, told):
        for value, other in zip(row, others):
            if abs(value - other) > bound or not 0 <= other < VALUE_LIMIT:
                return False
    return True


class Search:
    """The search for the coding of a band of so many blocks: what it is to show, from what, and how near to that."""

    def __init__(self, rows, top, slots, ways, bound):
        self.rows = rows
        self.top = top
        self.slots = slots
        self.ways = ways
        self.bound = bound
        # What is coded so far is put into these rows, for what comes behind it to be predicted from.
        self.known = [list(row) for row in rows]

    def best_leaf(self, area):
        """The first leaf of the least price: this price, the leaf, and the values that it tells."""
        y, x, n = area
        values = [row[x:x + n] for row in self.rows[y:y + n]]
        best = None
        for way in self.ways:
            awaited = expected(self.known, self.top, self.slots, area, way)
            # Values from 0 to 255 give members of at most 1,020 in size here, so that no level is above 2,000.
            square = forward(differences(values, awaited))
            for q in QUANTA:
                leaf = ("leaf", *way, q, levels(square, q))
                price = price_of_leaf(leaf, n)
                if best is not None and price >= best[0]:
                    continue
                told = changed(awaited, leaf[6], q)
                if is_near(values, told, self.bound):
                    best = (price, leaf, told)
        return best

    def best_tree(self, area):
        """The price and the tree with which an area is coded; what it tells is known from then on."""
        _, _, n = area
        price, leaf, told = self.best_leaf(area)
        if n > LEAST:
            parts = [self.best_tree(quarter) for quarter in quarters_of(area)]
            price_of_split = 1 + sum([part[0] for part in parts])
            if price_of_split < price:
                return (price_of_split, ("split", tuple([part[1] for part in parts])))
        put_area(self.known, area, told)
        return (price, leaf)


def blocks_of(rows):
    """The areas of all blocks of a band."""
    return [area_of_block(block) for block in range(len(rows[0]) // BLOCK)]


def coded_band(rows, top, slots, kind, bound, window):
    """The band tree with which rows are coded so that no place differs by more than bound."""
    search = Search(rows, top, slots, ways_to_predict(slots, kind, window), bound)
    return tuple([search.best_tree(area)[1] for area in blocks_of(rows)])


def areas_within(area):
    """The area, and behind it for each quarter of it all areas within that."""
    _, _, n = area
    found = [area]
    if n > LEAST:
        for quarter in quarters_of(area):
            found.extend(areas_within(quarter))
    return found


def exact_prices(rows, top, slots, kind, window):
    """For each block the least prices, area by area, of single leaves that tell rows exactly."""
    # Nothing is coded here, so that rows themselves are what is known.
    search = Search(rows, top, slots, ways_to_predict(slots, kind, window), 0)
    return [{area: search.best_leaf(area)[0] for area in areas_within(block)} for block in blocks_of(rows)]


def least_prices(prices, area):
    """For an area and all areas within it the least prices of their trees, if these are those of their leaves."""
    _, _, n = area
    if n == LEAST:
        return [prices[area]]
    price_of_split = 1
    within = []
    for quarter in quarters_of(area):
        found = least_prices(prices, quarter)
        price_of_split = price_of_split + found[0]
        within.extend(found)
    return [min(prices[area], price_of_split), *within]


def price_paper(rows, top, slots, kind, window):
    """For each block the least prices of the trees of its 21 areas that show rows there and clip nothing."""
    paper = []
    for block, prices in zip(blocks_of(rows), exact_prices(rows, top, slots, kind, window)):
        paper.append(tuple(least_prices(prices, block)))
    return tuple(paper)


def has_form_of_numbers(value, many):
    """Tell of any value whether it is a tuple of so many numbers."""
    if not isinstance(value, tuple) or len(value) != many:
        return False
    return all(is_number(member) for member in value)


def is_bounded(numbers, prices, area):
    """Tell whether the number of an area is at most its leaves' price and that of a split by its quarters' numbers."""
    _, _, n = area
    if numbers[area] > prices[area]:
        return False
    return n == LEAST or numbers[area] <= 1 + sum([numbers[quarter] for quarter in quarters_of(area)])


def price_holds(rows, top, slots, kind, window, paper):
    """Tell of any value as paper whether it shows of all trees of each area what they cost at least."""
    blocks = blocks_of(rows)
    areas = [areas_within(block) for block in blocks]
    if not isinstance(paper, tuple) or len(paper) != len(blocks):
        return False
    if not all(has_form_of_numbers(part, len(within)) for part, within in zip(paper, areas)):
        return False
    for part, within, prices in zip(paper, areas, exact_prices(rows, top, slots, kind, window)):
        numbers = {area: number for area, number in zip(within, part)}
        if not all(is_bounded(numbers, prices, area) for area in within):
            return False
    return True
