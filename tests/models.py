"""What the document says, told over again as plainly as it can be, for tests to compare the program with."""


def model_stepped(row):
    pairs = [(row[2 * k], row[2 * k + 1]) for k in range(len(row) // 2)]
    return [b + (a - b) // 2 for a, b in pairs] + [a - b for a, b in pairs]


def model_forward(square):
    n = len(square)
    at = {(y, x): square[y][x] for y in range(n) for x in range(n)}
    m = n
    while m >= 2:
        for y in range(m):
            for x, value in enumerate(model_stepped([at[y, x] for x in range(m)])):
                at[y, x] = value
        for x in range(m):
            for y, value in enumerate(model_stepped([at[y, x] for y in range(m)])):
                at[y, x] = value
        m //= 2
    return tuple(tuple(at[y, x] for x in range(n)) for y in range(n))


class ModelInterval:
    """The three numbers of a coder, and its chances as a list of pairs."""

    def __init__(self):
        self.low, self.width, self.count = 0, 2 ** 32, 4
        self.chances = []

    def pair_of(self, context):
        for pair in self.chances:
            if pair[0] == context:
                return pair
        self.chances.append([context, 2048])
        return self.chances[-1]

    def cut(self, context):
        return self.width // 4096 * self.pair_of(context)[1]

    def put(self, context, bit):
        cut = self.cut(context)
        pair = self.pair_of(context)
        if bit == 0:
            self.width = cut
            pair[1] += (4096 - pair[1]) // 32
        else:
            self.low += cut
            self.width -= cut
            pair[1] -= pair[1] // 32
        while self.width < 2 ** 24:
            self.low, self.width, self.count = 256 * self.low, 256 * self.width, self.count + 1

    def state(self):
        return (self.low, self.width, self.count)


def model_octets(state):
    """The least k's least v in k figures, k looked for from 0 on."""
    low, width, count = state
    k = 0
    while True:
        unit = 256 ** (count - k)
        v = -(-low // unit)
        if v < 256 ** k and low <= v * unit < low + width:
            return tuple(v // 256 ** (k - 1 - figure) % 256 for figure in range(k))
        k += 1


def model_octets_of_puts(puts):
    interval = ModelInterval()
    for context, bit in puts:
        interval.put(context, bit)
    return model_octets(interval.state())


class ModelDecoder(ModelInterval):
    """Finds the number of the first octets anew for each bit."""

    def __init__(self, octets):
        ModelInterval.__init__(self)
        self.octets = octets

    def get(self, context):
        c = 0
        for at in range(self.count):
            c = 256 * c + (self.octets[at] if at < len(self.octets) else 0)
        bit = 0 if c - self.low < self.cut(context) else 1
        self.put(context, bit)
        return bit


def model_number_puts(word, v):
    """The puts by which a number is put."""
    binary = f"{v + 1:b}"
    k = len(binary)
    puts = [((word, 0, i), 1) for i in range(k - 1)]
    if k < 16:
        puts.append(((word, 0, k - 1), 0))
    for at in range(1, k):
        puts.append(((word, 1, k - 1 - at), int(binary[at])))
    return puts


def model_signed_puts(word, v):
    return model_number_puts(word, 2 * v - 1 if v > 0 else -2 * v)
