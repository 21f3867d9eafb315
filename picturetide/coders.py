"""The interval coder: bits with contexts put into octets, and got back from them."""

from picturetide.basics import OCTET_LIMIT, figures

EVEN_CHANCE = 2048
WHOLE_CHANCE = 4096
# The greater, the slower a chance follows the bits of its context.
SLOWNESS = 32
FIRST_WIDTH = 2 ** 32
LEAST_WIDTH = 2 ** 24
FIRST_COUNT = 4


class Interval:
    """Where the bits so far lead: numbers of count figures to the base 256, from low on, as many as width tells."""

    def __init__(self):
        self.low = 0
        self.width = FIRST_WIDTH
        self.count = FIRST_COUNT
        self.chances = {}

    def chance(self, context):
        """How many of 4096 bits of this context are expected to be 0."""
        return self.chances.get(context, EVEN_CHANCE)

    def cut(self, context):
        """How many numbers, from low on, stand for the bit 0."""
        return (self.width // WHOLE_CHANCE) * self.chance(context)

    def narrow(self, context, bit):
        """Go on into the part of a bit, and learn of its context's chance."""
        chance = self.chance(context)
        cut = self.cut(context)
        if bit == 0:
            self.width = cut
            self.chances[context] = chance + (WHOLE_CHANCE - chance) // SLOWNESS
        else:
            self.low = self.low + cut
            self.width = self.width - cut
            self.chances[context] = chance - chance // SLOWNESS
        while self.width < LEAST_WIDTH:
            self.low = self.low * OCTET_LIMIT
            self.width = self.width * OCTET_LIMIT
            self.count = self.count + 1

    def state(self):
        """The three numbers."""
        return (self.low, self.width, self.count)


class Coder:
    """Puts bits."""

    def __init__(self):
        self.interval = Interval()

    def put(self, context, bit):
        """Take in a bit with its context."""
        self.interval.narrow(context, bit)

    def octets(self):
        """The fewest octets, and of these the least, that with zeros behind them tell a number of the interval."""
        low, width, count = self.interval.state()
        least = low
        greatest = low + width - 1
        while count > 0:
            # What one figure less can tell are those numbers of the interval that end in a 0.
            shorter_least = (least + OCTET_LIMIT - 1) // OCTET_LIMIT
            shorter_greatest = greatest // OCTET_LIMIT
            if shorter_least > shorter_greatest:
                break
            least = shorter_least
            greatest = shorter_greatest
            count = count - 1
        return figures(least, count)

    def state(self):
        """The numbers low, width and count."""
        return self.interval.state()


class Decoder:
    """Gets the bits back from octets, with endlessly many 0 behind them."""

    def __init__(self, octets):
        self.interval = Interval()
        self.source = tuple(octets)
        self.taken = 0
        self.number = 0
        self.take_octets()

    def take_octets(self):
        """Let number be that of as many octets as the interval counts."""
        while self.taken < self.interval.count:
            octet = self.source[self.taken] if self.taken < len(self.source) else 0
            self.number = self.number * OCTET_LIMIT + octet
            self.taken = self.taken + 1

    def get(self, context):
        """The next bit, which has this context."""
        bit = 0 if self.number - self.interval.low < self.interval.cut(context) else 1
        self.interval.narrow(context, bit)
        self.take_octets()
        return bit

    def state(self):
        """The numbers low, width and count."""
        return self.interval.state()
