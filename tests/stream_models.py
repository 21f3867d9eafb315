"""What the document says of units, streams, reach and coding, told over again as plainly as it can be."""

import functools

from models import (
    MODE_WORDS, QS, model_backward, model_band_octets, model_band_shown, model_clipped, model_forward, model_halfway,
    model_is_band_tree, model_leaves, model_predicted_value, model_read_band, model_tree_price,
)

MODULUS = 2 ** 31 - 1


def model_figures(number, count):
    return tuple(number // 256 ** (count - 1 - at) % 256 for at in range(count))


def model_check(octets):
    """The sum that point 16's steps come to, with the powers told one by one."""
    n = len(octets)
    total = 7 * pow(257, n, MODULUS)
    for at, octet in enumerate(octets):
        total += octet * pow(257, n - 1 - at, MODULUS)
    return total % MODULUS


def sealed(octets):
    """These octets with their check behind them."""
    return tuple(octets) + model_figures(model_check(octets), 4)


def model_head(bands, blocks, many, number, kind_number, keep_number, band, length):
    counts = (84, bands, blocks) + model_figures(many, 2) + model_figures(number, 2)
    return counts + (kind_number, keep_number, band) + model_figures(length, 2)


def model_unit(bands, blocks, many, number, kind, keep, band, trees):
    payload = model_band_octets(trees)
    keep_number = {None: 0, 0: 1, 1: 2, 2: 3}[keep]
    head = model_head(bands, blocks, many, number, ["key", "other"].index(kind), keep_number, band, len(payload))
    return sealed(head + payload)


def model_read_unit(value):
    if type(value) is not tuple or len(value) < 16:
        return None
    if any(type(octet) is not int or octet < 0 or octet > 255 for octet in value):
        return None
    return model_read_octets(value)


@functools.lru_cache(maxsize=None)
def model_read_octets(value):
    """What a unit tells; the tests ask of the same octets again and again."""
    if sealed(value[:-4]) != value:
        return None
    sign, bands, blocks, a, b, c, d, kind, keep, band, e, f = value[:12]
    many, number, length = 256 * a + b, 256 * c + d, 256 * e + f
    payload = value[12:-4]
    fitting = [
        sign == 84, bands in (1, 2, 3, 4), blocks in (1, 2, 3, 4), many in range(1, 13), number < many, band < bands,
        kind in (0, 1), keep in (0, 1, 2, 3), length == len(payload), number > 0 or kind == 0,
    ]
    if not all(fitting):
        return None
    word = ["key", "other"][kind]
    trees = model_read_band(payload, blocks, word)
    if trees is None:
        return None
    return (bands, blocks, many, number, word, [None, 0, 1, 2][keep], band, trees)


def model_counting(values):
    """The pairs (value, what it tells) that count, in the sequence of the values."""
    told = [(value, model_read_unit(value)) for value in values]
    told = [pair for pair in told if pair[1] is not None]
    told = [pair for pair in told if pair[1][:3] == told[0][1][:3]]
    fitting = []
    for at, pair in enumerate(told):
        of_picture = [other for other in told[:at + 1] if other[1][3] == pair[1][3]]
        if of_picture[0][1][4:6] == pair[1][4:6]:
            fitting.append(pair)
    first = []
    for at, pair in enumerate(fitting):
        if all((other[1][3], other[1][6]) != (pair[1][3], pair[1][6]) for other in fitting[:at]):
            first.append(pair)
    return first


def model_units_of(values):
    pairs = sorted(model_counting(values), key=lambda pair: (pair[1][3], pair[1][6]))
    return tuple(value for value, _ in pairs)


def model_is_stream(value):
    if type(value) is not tuple:
        return False
    told = [model_read_unit(unit) for unit in value]
    if not told or None in told or len(model_counting(value)) != len(value):
        return False
    bands, _, many = told[0][:3]
    return [(unit[3], unit[6]) for unit in told] == [(n, b) for n in range(many) for b in range(bands)]


def model_shown(values):
    told = [unit for _, unit in model_counting(values)]
    if not told:
        return ()
    bands, blocks, many = told[0][:3]
    slots = [None, None, None]
    pictures = []
    for number in range(many):
        own = [unit for unit in told if unit[3] == number]
        if own and own[0][4] == "key":
            slots = [None, None, None]
        picture = []
        for band in range(bands):
            trees = [unit[7] for unit in own if unit[6] == band]
            if trees:
                picture += model_band_shown(trees[0], 8 * band, tuple(slots))
            elif pictures:
                picture += pictures[-1][8 * band:8 * band + 8]
            else:
                picture += ((128,) * (8 * blocks),) * 8
        pictures.append(tuple(picture))
        if own and own[0][5] is not None:
            slots[own[0][5]] = pictures[-1]
    return tuple(pictures)


def model_asked(area, i, k, mode):
    """The places of a band that the value at row i and column k of an area is predicted from."""
    y, x, n = area
    above = [(y - 1, x + at) for at in range(n) if y > 0]
    left = [(y + at, x - 1) for at in range(n) if x > 0]
    if mode == "down":
        return above[k:k + 1]
    if mode == "right":
        return left[i:i + 1]
    if mode == "slope" and above and left:
        return [above[k], left[i], (y - 1, x - 1)]
    return above + left


def model_asked_by_motion(size, v, h):
    """The nearest places of a picture of (rows, columns) that a place told in halves is predicted from."""
    def both(place, count):
        ends = [place // 2] if place % 2 == 0 else [place // 2, place // 2 + 1]
        return [0 if end < 0 else count - 1 if end >= count else end for end in ends]
    return [(y, x) for y in both(v, size[0]) for x in both(h, size[1])]


class ModelReach:
    """Reach told as point 18 tells it, with a word for each slot that is astray."""

    def __init__(self, units, lost):
        self.told = [model_read_unit(unit) for unit in units]
        bands, blocks, self.many = self.told[0][:3]
        self.bands, self.blocks, self.size = bands, blocks, (8 * bands, 8 * blocks)
        self.lost = list(lost)
        # Of each slot the set of the reached places of the picture in it, or "astray".
        self.slots = [set(), set(), set()]
        self.pictures = [self.picture(number) for number in range(self.many)]

    def picture(self, number):
        own = [unit for unit in self.told if unit[3] == number]
        kind, keep = own[0][4:6]
        left = [unit for unit in own if (number, unit[6]) not in self.lost]
        if kind == "key":
            self.slots = [set(), set(), set()] if left else ["astray", "astray", "astray"]
        reached = set()
        for unit in own:
            if unit in left:
                reached |= self.band(unit)
            else:
                reached |= {(8 * unit[6] + y, x) for y in range(8) for x in range(self.size[1])}
        if keep is not None:
            self.slots[keep] = set(reached) if left else "astray"
        return reached

    def band(self, unit):
        band, trees = unit[6:]
        reached = set()
        for block, tree in enumerate(trees):
            for y, x, n, leaf in model_leaves(tree, 0, 8 * block, 8):
                for i in range(n):
                    for k in range(n):
                        if self.is_reached(reached, 8 * band, (y, x, n), i, k, leaf):
                            reached.add((y + i, x + k))
        return {(8 * band + y, x) for y, x in reached}

    def is_reached(self, reached, top, area, i, k, leaf):
        _, mode, slot, dy, dx, _, _ = leaf
        if mode != "motion":
            return any(place in reached for place in model_asked(area, i, k, mode))
        if self.slots[slot] == "astray":
            return True
        y, x, _ = area
        asked = model_asked_by_motion(self.size, 2 * (top + y + i) + dy, 2 * (x + k) + dx)
        return any(place in self.slots[slot] for place in asked)


def model_reach(units, lost):
    return tuple(tuple(sorted(places)) for places in ModelReach(units, lost).pictures)


def model_level(c, q):
    size = (abs(c) + q // 2) // q
    return -size if c < 0 else size


def model_ways(slots, kind, window):
    ways = [(mode, 0, 0, 0) for mode in MODE_WORDS[:4]]
    for slot in range(3):
        for dy in range(-window, window + 1):
            for dx in range(-window, window + 1):
                if kind == "other" and slots[slot] is not None:
                    ways.append(("motion", slot, dy, dx))
    return ways


def model_expected(known, top, slots, area, way):
    y, x, n = area
    mode, slot, dy, dx = way
    if mode == "motion":
        picture = slots[slot]
        return [[model_halfway(picture, 2 * (top + y + i) + dy, 2 * (x + k) + dx) for k in range(n)] for i in range(n)]
    return [[model_predicted_value(lambda *at: known[at], area, i, k, mode) for k in range(n)] for i in range(n)]


def model_leaves_of_area(rows, known, top, slots, area, ways, bound):
    """All leaves of point 21 of an area, as (price, their place among those of one price, leaf, values told)."""
    y, x, n = area
    found = []
    for way in ways:
        awaited = model_expected(known, top, slots, area, way)
        needed = model_forward([[rows[y + i][x + k] - awaited[i][k] for k in range(n)] for i in range(n)])
        for q in QS:
            levels = tuple(tuple(model_level(c, q) for c in row) for row in needed)
            if max(abs(level) for row in levels for level in row) > 2000:
                continue
            changes = model_backward([[q * level for level in row] for row in levels])
            told = [[awaited[i][k] + changes[i][k] for k in range(n)] for i in range(n)]
            pairs = [(told[i][k], rows[y + i][x + k]) for i in range(n) for k in range(n)]
            if all(model_clipped(a) == a and abs(a - b) <= bound for a, b in pairs):
                leaf = ("leaf", *way, q, levels)
                found.append((model_tree_price(leaf, n), (MODE_WORDS.index(way[0]), *way[1:], q), leaf, told))
    return found


def model_parts(area):
    y, x, n = area
    h = n // 2
    return [(y, x, h), (y, x + h, h), (y + h, x, h), (y + h, x + h, h)] if n > 2 else []


def model_coded_area(rows, known, top, slots, area, ways, bound):
    """The tree of an area and what is known with it, told as a dict of all places."""
    y, x, n = area
    _, _, leaf, told = min(model_leaves_of_area(rows, known, top, slots, area, ways, bound), key=lambda one: one[:2])
    with_leaf = dict(known)
    with_leaf.update({(y + i, x + k): told[i][k] for i in range(n) for k in range(n)})
    if n == 2:
        return leaf, with_leaf
    parts, with_parts = [], known
    for part in model_parts(area):
        tree, with_parts = model_coded_area(rows, with_parts, top, slots, part, ways, bound)
        parts.append(tree)
    split = ("split", tuple(parts))
    if model_tree_price(split, n) < model_tree_price(leaf, n):
        return split, with_parts
    return leaf, with_leaf


def model_coded_band(rows, top, slots, kind, bound, window):
    known, trees = {}, []
    for block in range(len(rows[0]) // 8):
        area = (0, 8 * block, 8)
        tree, known = model_coded_area(rows, known, top, slots, area, model_ways(slots, kind, window), bound)
        trees.append(tree)
    return tuple(trees)


def model_areas(area):
    found = [area]
    for part in model_parts(area):
        found += model_areas(part)
    return found


def model_exact_prices(rows, top, slots, kind, window):
    """For each area of a band the least price of a leaf that tells rows exactly."""
    known = {(y, x): value for y, row in enumerate(rows) for x, value in enumerate(row)}
    ways = model_ways(slots, kind, window)
    prices = {}
    for block in range(len(rows[0]) // 8):
        for area in model_areas((0, 8 * block, 8)):
            prices[area] = min(leaf[0] for leaf in model_leaves_of_area(rows, known, top, slots, area, ways, 0))
    return prices


def model_least(prices, area):
    parts = model_parts(area)
    return min([prices[area]] + [1 + sum(model_least(prices, part) for part in parts)] * bool(parts))


def model_price_paper(rows, top, slots, kind, window):
    prices = model_exact_prices(rows, top, slots, kind, window)
    blocks = range(len(rows[0]) // 8)
    return tuple(tuple(model_least(prices, area) for area in model_areas((0, 8 * block, 8))) for block in blocks)


def model_price_holds(prices, blocks, paper):
    """Whether this is a paper for a band of which these are the prices of the leaves."""
    if type(paper) is not tuple or len(paper) != blocks:
        return False
    numbers = {}
    for block, part in enumerate(paper):
        areas = model_areas((0, 8 * block, 8))
        if type(part) is not tuple or len(part) != len(areas):
            return False
        if any(type(number) is not int or number < 0 for number in part):
            return False
        numbers.update(zip(areas, part))
    for area, number in numbers.items():
        parts = model_parts(area)
        if number > prices[area] or (parts and number > 1 + sum(numbers[part] for part in parts)):
            return False
    return True


def model_within(trees, kind, slots, window):
    """Whether these are leaves of motion that a coding within the window can have."""
    for block, tree in enumerate(trees):
        for _, _, _, leaf in model_leaves(tree, 0, 8 * block, 8):
            if leaf[1] == "motion":
                if kind == "key" or slots[leaf[2]] is None or max(abs(leaf[3]), abs(leaf[4])) > window:
                    return False
    return True


def model_is_exact(rows, top, slots, kind, window, trees):
    """Whether trees are a band tree within the window that shows rows and clips nothing."""
    if not model_is_band_tree(trees, len(rows[0]) // 8) or not model_within(trees, kind, slots, window):
        return False
    known = {(y, x): value for y, row in enumerate(rows) for x, value in enumerate(row)}
    for block, tree in enumerate(trees):
        for y, x, n, leaf in model_leaves(tree, 0, 8 * block, 8):
            awaited = model_expected(known, top, slots, (y, x, n), leaf[1:5])
            changes = model_backward([[leaf[5] * level for level in row] for row in leaf[6]])
            if any(awaited[i][k] + changes[i][k] != rows[y + i][x + k] for i in range(n) for k in range(n)):
                return False
    return True
