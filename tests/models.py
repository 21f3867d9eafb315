"""What the document says, told over again as plainly as it can be, for tests to compare the program with."""


def model_stepped(row):
    pairs = [(row[2 * k], row[2 * k + 1]) for k in range(len(row) // 2)]
    return [b + (a - b) // 2 for a, b in pairs] + [a - b for a, b in pairs]


def model_forward(square):
    n = len(square)
    at = {(y, x): square[y][x] for y in range(n) for x in range(n)}
    m = n
    while m >= 2:
        for y in range(m):
            for x, value in enumerate(model_stepped([at[y, x] for x in range(m)])):
                at[y, x] = value
        for x in range(m):
            for y, value in enumerate(model_stepped([at[y, x] for y in range(m)])):
                at[y, x] = value
        m //= 2
    return tuple(tuple(at[y, x] for x in range(n)) for y in range(n))


class ModelInterval:
    """The three numbers of a coder, and its chances as a list of pairs."""

    def __init__(self):
        self.low, self.width, self.count = 0, 2 ** 32, 4
        self.chances = []

    def pair_of(self, context):
        for pair in self.chances:
            if pair[0] == context:
                return pair
        self.chances.append([context, 2048])
        return self.chances[-1]

    def cut(self, context):
        return self.width // 4096 * self.pair_of(context)[1]

    def put(self, context, bit):
        cut = self.cut(context)
        pair = self.pair_of(context)
        if bit == 0:
            self.width = cut
            pair[1] += (4096 - pair[1]) // 32
        else:
            self.low += cut
            self.width -= cut
            pair[1] -= pair[1] // 32
        while self.width < 2 ** 24:
            self.low, self.width, self.count = 256 * self.low, 256 * self.width, self.count + 1

    def state(self):
        return (self.low, self.width, self.count)


def model_octets(state):
    """The least k's least v in k figures, k looked for from 0 on."""
    low, width, count = state
    k = 0
    while True:
        unit = 256 ** (count - k)
        v = -(-low // unit)
        if v < 256 ** k and low <= v * unit < low + width:
            return tuple(v // 256 ** (k - 1 - figure) % 256 for figure in range(k))
        k += 1


def model_octets_of_puts(puts):
    interval = ModelInterval()
    for context, bit in puts:
        interval.put(context, bit)
    return model_octets(interval.state())


class ModelDecoder(ModelInterval):
    """Finds the number of the first octets anew for each bit."""

    def __init__(self, octets):
        ModelInterval.__init__(self)
        self.octets = octets

    def get(self, context):
        c = 0
        for at in range(self.count):
            c = 256 * c + (self.octets[at] if at < len(self.octets) else 0)
        bit = 0 if c - self.low < self.cut(context) else 1
        self.put(context, bit)
        return bit


def model_number_puts(word, v):
    """The puts by which a number is put."""
    binary = f"{v + 1:b}"
    k = len(binary)
    puts = [((word, 0, i), 1) for i in range(k - 1)]
    if k < 16:
        puts.append(((word, 0, k - 1), 0))
    for at in range(1, k):
        puts.append(((word, 1, k - 1 - at), int(binary[at])))
    return puts


def model_signed_puts(word, v):
    return model_number_puts(word, 2 * v - 1 if v > 0 else -2 * v)


QS = [1, 2, 4, 8, 16, 32, 64]
MODE_WORDS = ["flat", "down", "right", "slope", "motion"]


def is_plain_integer(value, least, greatest):
    return type(value) is int and least <= value <= greatest


def model_is_tree(value, n):
    """Whether this is a tree of an area of n by n."""
    if type(value) is not tuple:
        return False
    if len(value) == 2 and value[0] == "split":
        fitting = n in (4, 8) and type(value[1]) is tuple and len(value[1]) == 4
        return fitting and all(model_is_tree(part, n // 2) for part in value[1])
    if len(value) != 7 or value[0] != "leaf" or type(value[1]) is not str or value[1] not in MODE_WORDS:
        return False
    most = {"motion": (2, 31)}.get(value[1], (0, 0))
    if not is_plain_integer(value[2], 0, most[0]):
        return False
    if not all(is_plain_integer(by, -most[1], most[1]) for by in value[3:5]):
        return False
    if type(value[5]) is not int or value[5] not in QS:
        return False
    levels = value[6]
    if type(levels) is not tuple or len(levels) != n:
        return False
    if any(type(row) is not tuple or len(row) != n for row in levels):
        return False
    return all(is_plain_integer(level, -2000, 2000) for row in levels for level in row)


def model_is_band_tree(value, blocks):
    if type(value) is not tuple or len(value) != blocks or len(value) not in (1, 2, 3, 4):
        return False
    return all(model_is_tree(tree, 8) for tree in value)


def model_leaves(tree, y, x, n):
    """The leaves of a tree whose area is (y, x, n)."""
    if tree[0] == "leaf":
        return [(y, x, n, tree)]
    h = n // 2
    upper_left, upper_right, lower_left, lower_right = tree[1]
    return (
        model_leaves(upper_left, y, x, h) + model_leaves(upper_right, y, x + h, h)
        + model_leaves(lower_left, y + h, x, h) + model_leaves(lower_right, y + h, x + h, h)
    )


def model_price(v):
    return 2 * len(f"{v + 1:b}") - 1


def model_signed_price(v):
    return model_price(2 * v - 1 if v > 0 else -2 * v)


def model_tree_price(tree, n):
    if tree[0] == "split":
        return 1 + sum(model_tree_price(part, n // 2) for part in tree[1])
    _, mode, slot, dy, dx, q, levels = tree
    price = (1 if n == 2 else 2) + model_price(MODE_WORDS.index(mode)) + model_price(QS.index(q))
    if mode == "motion":
        price += model_price(slot) + model_signed_price(dy) + model_signed_price(dx)
    members = [level for row in levels for level in row]
    return price if set(members) == {0} else price + sum(model_signed_price(level) for level in members)


def level_word(y, x):
    if (y, x) == (0, 0):
        return "low"
    return "mid" if (y, x) in ((0, 1), (1, 0), (1, 1)) else "high"


def model_tree_puts(tree, n):
    """The puts by which a tree is written."""
    if tree[0] == "split":
        puts = [(("split", n), 1)]
        for part in tree[1]:
            puts += model_tree_puts(part, n // 2)
        return puts
    _, mode, slot, dy, dx, q, levels = tree
    puts = [] if n == 2 else [(("split", n), 0)]
    puts += model_number_puts("mode", MODE_WORDS.index(mode))
    if mode == "motion":
        puts += model_number_puts("slot", slot) + model_signed_puts("dy", dy) + model_signed_puts("dx", dx)
    puts += model_number_puts("q", QS.index(q))
    if all(level == 0 for row in levels for level in row):
        return puts + [(("empty", n), 1)]
    puts += [(("empty", n), 0)]
    for y in range(n):
        for x in range(n):
            puts += model_signed_puts(level_word(y, x), levels[y][x])
    return puts


def model_band_octets(trees):
    return model_octets_of_puts([put for tree in trees for put in model_tree_puts(tree, 8)])


class NoTree(Exception):
    """What is read is no tree."""


def model_read_number(decoder, word):
    k = 1
    while k < 16 and decoder.get((word, 0, k - 1)) == 1:
        k += 1
    binary = "1"
    for j in range(k - 2, -1, -1):
        binary += str(decoder.get((word, 1, j)))
    return int(binary, 2) - 1


def model_read_signed(decoder, word, most):
    number = model_read_number(decoder, word)
    v = (number + 1) // 2 if number % 2 else -number // 2
    if abs(v) > most:
        raise NoTree
    return v


def model_read_member(decoder, word, members):
    number = model_read_number(decoder, word)
    if number >= len(members):
        raise NoTree
    return members[number]


def model_read_tree(decoder, n):
    if n > 2 and decoder.get(("split", n)) == 1:
        return ("split", tuple(model_read_tree(decoder, n // 2) for _ in range(4)))
    mode = model_read_member(decoder, "mode", MODE_WORDS)
    slot, dy, dx = 0, 0, 0
    if mode == "motion":
        slot = model_read_member(decoder, "slot", [0, 1, 2])
        dy = model_read_signed(decoder, "dy", 31)
        dx = model_read_signed(decoder, "dx", 31)
    q = model_read_member(decoder, "q", QS)
    levels = [[0] * n for _ in range(n)]
    if decoder.get(("empty", n)) == 0:
        for y in range(n):
            for x in range(n):
                levels[y][x] = model_read_signed(decoder, level_word(y, x), 2000)
    return ("leaf", mode, slot, dy, dx, q, tuple(tuple(row) for row in levels))


def model_read_band(octets, blocks, kind):
    decoder = ModelDecoder(octets)
    try:
        trees = tuple(model_read_tree(decoder, 8) for _ in range(blocks))
    except NoTree:
        return None
    if kind == "key" and "'motion'" in repr(trees):
        return None
    return trees if model_band_octets(trees) == octets else None


def model_mean(values):
    return (sum(values) + len(values) // 2) // len(values)


def model_clipped(value):
    return 0 if value < 0 else 255 if value > 255 else value


def model_predicted_value(known, area, i, k, mode):
    """The value that a mode expects at row i and column k of an area; known tells what asks of a place."""
    y, x, n = area
    above = [known(y - 1, x + j) for j in range(n)] if y > 0 and mode != "right" else []
    left = [known(y + j, x - 1) for j in range(n)] if x > 0 and mode != "down" else []
    if mode == "down":
        return above[k] if y > 0 else 128
    if mode == "right":
        return left[i] if x > 0 else 128
    if mode == "slope" and y > 0 and x > 0:
        return model_clipped(above[k] + left[i] - known(y - 1, x - 1))
    return model_mean(above + left) if above + left else 128


def model_halfway(picture, v, h):
    lines = [v // 2] if v % 2 == 0 else [v // 2, v // 2 + 1]
    columns = [h // 2] if h % 2 == 0 else [h // 2, h // 2 + 1]
    values = []
    for y in lines:
        for x in columns:
            near_y = sorted([0, y, len(picture) - 1])[1]
            near_x = sorted([0, x, len(picture[0]) - 1])[1]
            values.append(picture[near_y][near_x])
    return model_mean(values)


def model_backward(square):
    """Undoes model_forward, place by place."""
    n = len(square)
    at = {(y, x): square[y][x] for y in range(n) for x in range(n)}
    m = 2
    while m <= n:
        for lines in ([[(y, x) for y in range(m)] for x in range(m)], [[(y, x) for x in range(m)] for y in range(m)]):
            for line in lines:
                told = [at[place] for place in line]
                for pair in range(m // 2):
                    s, d = told[pair], told[m // 2 + pair]
                    at[line[2 * pair + 1]] = s - d // 2
                    at[line[2 * pair]] = s - d // 2 + d
        m *= 2
    return [[at[y, x] for x in range(n)] for y in range(n)]


def model_band_shown(trees, top, slots):
    """The rows that a band tree tells, place by place; a place that is not known yet is never asked."""
    at = {}
    for block, tree in enumerate(trees):
        for y, x, n, leaf in model_leaves(tree, 0, 8 * block, 8):
            _, mode, slot, dy, dx, q, levels = leaf
            changes = model_backward([[q * level for level in row] for row in levels])
            told = {}
            for i in range(n):
                for k in range(n):
                    if mode != "motion":
                        value = model_predicted_value(lambda *place: at[place], (y, x, n), i, k, mode)
                    elif slots[slot] is None:
                        value = 128
                    else:
                        value = model_halfway(slots[slot], 2 * (top + y + i) + dy, 2 * (x + k) + dx)
                    told[y + i, x + k] = model_clipped(value + changes[i][k])
            at.update(told)
    return tuple(tuple(at[y, x] for x in range(8 * len(trees))) for y in range(8))
