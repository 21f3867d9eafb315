import random
import unittest

from models import ModelDecoder, model_number_puts, model_octets_of_puts, model_signed_puts
from picturetide.coders import Coder, Decoder
from picturetide.numbers import (
    get_number, get_signed, price_of, price_of_signed, put_number, put_signed,
)

MOST = 65534
WORDS = ("a", "mode", "abcdefgh")
EDGES = sorted({0, 1, 2, 3, 100, 65533, MOST} | {2 ** j + by for j in range(2, 16) for by in (-3, -2, -1, 0)})
SIGNED = sorted({sign * v for v in range(20) for sign in (-1, 1)} | {
    sign * (2 ** j + by) for j in range(1, 15) for by in (-2, -1, 0, 1) for sign in (-1, 1)
} | {-32767, -32766, -16384, 16383, 32766, 32767})


class Recorder:
    """In the place of a coder: keeps the puts."""

    def __init__(self):
        self.puts = []

    def put(self, context, bit):
        self.puts.append((context, bit))


def puts_of(function, *arguments):
    recorder = Recorder()
    function(recorder, *arguments)
    return recorder.puts


class Player:
    """In the place of a decoder: gives the bits of such puts, if it is asked with their contexts."""

    def __init__(self, puts):
        self.puts = list(puts)

    def get(self, context):
        wanted, bit = self.puts.pop(0)
        assert context == wanted, (context, wanted)
        return bit


class Putting(unittest.TestCase):
    def test_puts_written_out(self):
        self.assertEqual(puts_of(put_number, "a", 0), [(("a", 0, 0), 0)])
        self.assertEqual(puts_of(put_number, "a", 1), [(("a", 0, 0), 1), (("a", 0, 1), 0), (("a", 1, 0), 0)])
        self.assertEqual(puts_of(put_number, "a", 2), [(("a", 0, 0), 1), (("a", 0, 1), 0), (("a", 1, 0), 1)])
        self.assertEqual(puts_of(put_number, "q", 5), [
            (("q", 0, 0), 1), (("q", 0, 1), 1), (("q", 0, 2), 0), (("q", 1, 1), 1), (("q", 1, 0), 0),
        ])
        ones = [(("w", 0, i), 1) for i in range(15)]
        self.assertEqual(puts_of(put_number, "w", 32767), ones + [(("w", 1, j), 0) for j in range(14, -1, -1)])
        self.assertEqual(
            puts_of(put_number, "w", MOST), ones + [(("w", 1, j), 1) for j in range(14, -1, -1)],
        )
        self.assertEqual(
            puts_of(put_number, "w", 32766),
            ones[:14] + [(("w", 0, 14), 0)] + [(("w", 1, j), 1) for j in range(13, -1, -1)],
        )

    def test_signed_puts_written_out(self):
        for v, number in ((0, 0), (1, 1), (-1, 2), (2, 3), (-2, 4), (32767, 65533), (-32767, MOST)):
            with self.subTest(v=v):
                self.assertEqual(puts_of(put_signed, "dy", v), puts_of(put_number, "dy", number))

    def test_numbers_of_all_sizes(self):
        for word in WORDS:
            for v in EDGES:
                with self.subTest(word=word, v=v):
                    self.assertEqual(puts_of(put_number, word, v), model_number_puts(word, v))
            for v in SIGNED:
                with self.subTest(word=word, v=v):
                    self.assertEqual(puts_of(put_signed, word, v), model_signed_puts(word, v))

    def test_nothing_comes_back(self):
        coder = Coder()
        self.assertIsNone(put_number(coder, "a", 9))
        self.assertIsNone(put_signed(coder, "a", -9))
        self.assertIsNone(put_number(v=9, word="a", coder=coder))
        self.assertIsNone(put_signed(v=-9, word="a", coder=coder))
        puts = (model_number_puts("a", 9) + model_signed_puts("a", -9)) * 2
        self.assertEqual(coder.octets(), model_octets_of_puts(puts))


class Getting(unittest.TestCase):
    def test_with_the_contexts_of_the_puts(self):
        for word in WORDS:
            for v in EDGES:
                player = Player(model_number_puts(word, v))
                self.assertEqual(get_number(player, word), v)
                self.assertEqual(player.puts, [])
            for v in SIGNED:
                player = Player(model_signed_puts(word, v))
                self.assertEqual(get_signed(player, word), v)
                self.assertEqual(player.puts, [])

    def assert_got(self, function, word, v):
        coder = Coder()
        put = put_number if function is get_number else put_signed
        put(coder, word, v)
        found = function(Decoder(coder.octets()), word)
        self.assertEqual(found, v)
        self.assertIs(type(found), int)
        self.assertEqual(function(word=word, decoder=Decoder(coder.octets())), v)

    def test_one_by_one(self):
        for word in WORDS:
            for v in EDGES:
                self.assert_got(get_number, word, v)
            for v in SIGNED:
                self.assert_got(get_signed, word, v)

    def test_the_whole_ranges(self):
        for v in range(MOST + 1):
            self.assertEqual(get_number(Player(puts_of(put_number, "n", v)), "n"), v)
        for v in range(-32767, 32768):
            self.assertEqual(get_signed(Player(puts_of(put_signed, "n", v)), "n"), v)

    def test_ones_are_counted_to_15_at_most(self):
        ones = [(("n", 0, i), 1) for i in range(15)]
        player = Player(ones + [(("n", 1, j), 0) for j in range(14, -1, -1)] + [(("n", 0, 15), 1)])
        self.assertEqual(get_number(player, "n"), 32767)
        self.assertEqual(player.puts, [(("n", 0, 15), 1)])
        player = Player(ones + [(("n", 1, j), 1) for j in range(14, -1, -1)])
        self.assertEqual(get_number(player, "n"), MOST)

    def test_mixed_with_single_bits(self):
        source = random.Random(11)
        for number in range(40):
            coder, jobs, puts = Coder(), [], []
            for _ in range(12):
                kind, word = source.choice(["number", "signed", "bit"]), source.choice(WORDS[:2])
                if kind == "number":
                    v = source.choice(EDGES)
                    put_number(coder, word, v)
                    puts += model_number_puts(word, v)
                elif kind == "signed":
                    v = source.choice(SIGNED)
                    put_signed(coder, word, v)
                    puts += model_signed_puts(word, v)
                else:
                    word, v = (word, source.randrange(2), source.randrange(16)), source.randrange(2)
                    coder.put(word, v)
                    puts.append((word, v))
                jobs.append((kind, word, v))
            with self.subTest(number=number):
                self.assertEqual(coder.octets(), model_octets_of_puts(puts))
                self.assert_read(Decoder(coder.octets()), jobs)

    def assert_read(self, decoder, jobs):
        for kind, word, v in jobs:
            if kind == "bit":
                self.assertEqual(decoder.get(word), v)
            else:
                function = get_number if kind == "number" else get_signed
                self.assertEqual(function(decoder, word), v)

    def test_any_octets(self):
        source = random.Random(18)
        rows = [(), (255,) * 40, (0,) * 40, (255,), (254, 255)]
        rows += [tuple(source.randrange(256) for _ in range(30)) for _ in range(40)]
        for octets in rows:
            decoder, model = Decoder(octets), ModelDecoder(octets)
            with self.subTest(octets=octets):
                for number in range(20):
                    word = WORDS[number % 2]
                    v = get_number(decoder, word)
                    for context, bit in model_number_puts(word, v):
                        self.assertEqual(model.get(context), bit)
                    self.assertEqual(decoder.state(), model.state())


class Prices(unittest.TestCase):
    def test_prices_written_out(self):
        wanted = {0: 1, 1: 3, 2: 3, 3: 5, 6: 5, 7: 7, 14: 7, 15: 9, 30: 9, 31: 11, 254: 15, 255: 17,
                  16382: 27, 16383: 29, 32766: 29, 32767: 31, 65533: 31, MOST: 31}
        for v, price in wanted.items():
            with self.subTest(v=v):
                self.assertEqual(price_of(v), price)
                self.assertEqual(price_of(v=v), price)
                self.assertIs(type(price_of(v)), int)

    def test_signed_prices_written_out(self):
        wanted = {0: 1, 1: 3, -1: 3, 2: 5, -2: 5, 3: 5, -3: 5, 4: 7, -4: 7, 7: 7, 8: 9, -7: 7, -8: 9,
                  -31: 11, 31: 11, 2000: 23, -2000: 23, 16383: 29, -16383: 29, 16384: 31, -16384: 31,
                  32767: 31, -32767: 31}
        for v, price in wanted.items():
            with self.subTest(v=v):
                self.assertEqual(price_of_signed(v), price)
                self.assertEqual(price_of_signed(v=v), price)

    def test_the_whole_ranges(self):
        for v in range(MOST + 1):
            self.assertEqual(price_of(v), 2 * len(f"{v + 1:b}") - 1)
        for v in range(-32767, 32768):
            number = 2 * v - 1 if v > 0 else -2 * v
            self.assertEqual(price_of_signed(v), 2 * len(f"{number + 1:b}") - 1)


if __name__ == "__main__":
    unittest.main()
