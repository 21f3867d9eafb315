import copy
import random
import unittest

from models import ModelDecoder, ModelInterval, model_octets, model_octets_of_puts
from picturetide.coders import Coder, Decoder
from samples import FAR, is_made_of_integers

CONTEXTS = [
    (1,), (1, 0), (0, 1), (0,), (0, 0), (-1,), (FAR,), (-FAR, 0, 0),
    ("a",), ("a", 0), (0, "a"), ("a", 0, 0), ("a", "a"), ("aa",), ("abcdefgh", 1), ("split", 8),
    ("i", 0, 1, 2, 3, 4, 5), ("empty", 2), ("empty", 4), ("mode", 1, 14),
]


def coder_of(puts):
    coder = Coder()
    for context, bit in puts:
        coder.put(context, bit)
    return coder


def drawn_puts(source, length, contexts, ones):
    """Puts of which about so many of a hundred are ones."""
    return [(source.choice(contexts), 1 if source.randrange(100) < ones else 0) for _ in range(length)]


def sequences():
    """Sequences of puts: short and long, in one context and in many, with bits alike, mixed and in turns."""
    source = random.Random(1)
    found = [[]]
    for context in CONTEXTS:
        found += [[(context, 0)], [(context, 1)], [(context, 0), (context, 1)], [(context, 1), (context, 0)]]
    for length in (3, 30, 400):
        for bit in (0, 1):
            found.append([(("a",), bit)] * length)
            found.append([((number,), bit) for number in range(length)])
        found.append([(("a",), number % 2) for number in range(length)])
        found.append([(("a",), 1 if number == length - 1 else 0) for number in range(length)])
        found.append([(("a",), 0 if number == length - 1 else 1) for number in range(length)])
        for ones in (2, 20, 50, 80, 98):
            for contexts in (CONTEXTS[:1], CONTEXTS[:4], CONTEXTS):
                found.append(drawn_puts(source, length, contexts, ones))
    return found


def short_sequences():
    """All sequences of at most five puts in two contexts that are alike but for one member."""
    found = [[]]
    longest = [[]]
    for _ in range(5):
        longest = [
            puts + [(context, bit)] for puts in longest for context in (("a",), ("a", 0)) for bit in (0, 1)
        ]
        found += longest
    return found


class States(unittest.TestCase):
    def test_a_new_coder(self):
        self.assertEqual(Coder().state(), (0, 2 ** 32, 4))
        self.assertTrue(is_made_of_integers(Coder().state()))

    def test_states_written_out(self):
        coder = Coder()
        for context, bit, state in (
            (("a",), 0, (0, 2147483648, 4)),
            (("a",), 0, (0, 1107296256, 4)),
            (("a",), 1, (587710464, 519585792, 4)),
            (("b", 3), 1, (847503360, 259792896, 4)),
            (("b", 3), 1, (973340544, 133955712, 4)),
        ):
            self.assertIsNone(coder.put(context, bit))
            self.assertEqual(coder.state(), state)

    def test_widening_by_256(self):
        coder = Coder()
        for _ in range(8):
            coder.put(("a",), 1)
        low, width, count = coder.state()
        self.assertEqual(count, 4)
        self.assertGreaterEqual(width, 2 ** 24)
        fresh = Coder()
        for number in range(8):
            fresh.put((number,), 0)
        self.assertEqual(fresh.state(), (0, 2 ** 24, 4))
        fresh.put((8,), 0)
        self.assertEqual(fresh.state(), (0, 2 ** 31, 5))
        other = Coder()
        for number in range(9):
            other.put((number,), 1)
        self.assertEqual(other.state(), (256 * (2 ** 32 - 2 ** 23), 2 ** 31, 5))

    def test_after_every_put(self):
        for puts in sequences():
            coder, model = Coder(), ModelInterval()
            with self.subTest(puts=puts[:9], length=len(puts)):
                for context, bit in puts:
                    coder.put(context, bit)
                    model.put(context, bit)
                    self.assertEqual(coder.state(), model.state())
                    self.assertTrue(is_made_of_integers(coder.state()))

    def test_arguments_by_name(self):
        coder = Coder()
        self.assertIsNone(coder.put(bit=1, context=("a", 0)))
        self.assertIsNone(coder.put(("a", 0), bit=0))
        self.assertEqual(coder.state(), coder_of([(("a", 0), 1), (("a", 0), 0)]).state())

    def test_equal_tuples_are_one_context(self):
        for context in CONTEXTS:
            coder = Coder()
            for _ in range(5):
                coder.put(tuple(list(context)), 0)
            with self.subTest(context=context):
                self.assertEqual(coder.state(), coder_of([(("x",), 0)] * 5).state())

    def test_other_tuples_are_contexts_of_their_own(self):
        for context in CONTEXTS:
            for other in CONTEXTS:
                if context != other:
                    with self.subTest(context=context, other=other):
                        coder = coder_of([(context, 0)] * 4 + [(other, 0)])
                        self.assertEqual(coder.state()[1], coder_of([(("x",), 0)] * 4).state()[1] // 4096 * 2048)

    def test_nothing_is_changed_by_asking(self):
        for puts in sequences():
            asked, not_asked = Coder(), Coder()
            for context, bit in puts[:60]:
                asked.put(context, bit)
                not_asked.put(context, bit)
                self.assertEqual(asked.octets(), asked.octets())
                self.assertEqual(asked.state(), asked.state())
            with self.subTest(puts=puts[:9], length=len(puts)):
                self.assertEqual(asked.state(), not_asked.state())
                self.assertEqual(asked.octets(), not_asked.octets())

    def test_each_coder_begins_anew(self):
        first = coder_of([(("a",), 0)] * 40)
        state, octets = first.state(), first.octets()
        second = Coder()
        self.assertEqual(second.state(), (0, 2 ** 32, 4))
        second.put(("a",), 0)
        self.assertEqual(second.state(), (0, 2 ** 31, 4))
        second.put(("a",), 1)
        self.assertEqual((first.state(), first.octets()), (state, octets))

    def test_two_coders_in_turns(self):
        source = random.Random(4)
        one_puts, two_puts = drawn_puts(source, 90, CONTEXTS, 30), drawn_puts(source, 90, CONTEXTS, 70)
        one, two = Coder(), Coder()
        for (context, bit), (other, other_bit) in zip(one_puts, two_puts):
            one.put(context, bit)
            two.put(other, other_bit)
        self.assertEqual(one.state(), coder_of(one_puts).state())
        self.assertEqual(two.octets(), model_octets_of_puts(two_puts))


class Octets(unittest.TestCase):
    def assert_octets(self, puts, wanted):
        found = coder_of(puts).octets()
        self.assertEqual(found, wanted)
        self.assertTrue(is_made_of_integers(found))
        self.assertTrue(all(0 <= octet <= 255 for octet in found))

    def test_octets_written_out(self):
        a = ("a",)
        self.assert_octets([], ())
        self.assert_octets([(a, 0)], ())
        self.assert_octets([(a, 0)] * 400, ())
        self.assert_octets([(a, 1)], (128,))
        self.assert_octets([(a, 0), (a, 1)], (66,))
        self.assert_octets([((number,), 1) for number in range(8)], (255,))
        self.assert_octets([((number,), 1) for number in range(9)], (255, 128))
        self.assert_octets([((number,), 1) for number in range(16)], (255, 255))
        self.assert_octets([((number,), 0) for number in range(8)] + [(a, 1)], (0, 128))
        self.assert_octets([((number,), 0) for number in range(16)] + [(a, 1)], (0, 0, 128))

    def test_the_least_number_of_the_fewest_figures(self):
        for puts in sequences() + short_sequences():
            with self.subTest(puts=puts[:9], length=len(puts)):
                self.assert_octets(puts, model_octets_of_puts(puts))

    def test_after_every_put(self):
        source = random.Random(12)
        for ones in (3, 50, 97):
            coder, model = Coder(), ModelInterval()
            for context, bit in drawn_puts(source, 200, CONTEXTS[:6], ones):
                coder.put(context, bit)
                model.put(context, bit)
                self.assertEqual(coder.octets(), model_octets(model.state()))

    def test_no_shorter_and_no_lesser_octets_will_do(self):
        for puts in short_sequences():
            coder = coder_of(puts)
            low, width, count = coder.state()
            self.assertEqual(count, 4)
            fitting = [k for k in (0, 1) for v in range(256 ** k) if low <= v * 256 ** (4 - k) < low + width]
            octets = coder.octets()
            with self.subTest(puts=puts):
                if fitting:
                    self.assertEqual(len(octets), fitting[0])
                else:
                    self.assertGreater(len(octets), 1)
                value = sum(octet * 256 ** (3 - at) for at, octet in enumerate(octets))
                self.assertTrue(low <= value < low + width)
                if octets:
                    self.assertLess(value - 256 ** (4 - len(octets)), low)


class Decoding(unittest.TestCase):
    def bits_got(self, octets, puts):
        decoder = Decoder(octets)
        return [decoder.get(context) for context, _ in puts]

    def test_the_same_bits_with_the_same_contexts(self):
        for puts in sequences() + short_sequences():
            octets = coder_of(puts).octets()
            wanted = [bit for _, bit in puts]
            with self.subTest(puts=puts[:9], length=len(puts)):
                for behind in ((), (0,), (0,) * 7):
                    found = self.bits_got(octets + behind, puts)
                    self.assertEqual(found, wanted)
                    self.assertTrue(is_made_of_integers(tuple(found)))

    def test_octets_asked_in_the_middle(self):
        source = random.Random(13)
        for ones in (5, 50, 95):
            puts = drawn_puts(source, 120, CONTEXTS, ones)
            coder = Coder()
            for number, (context, bit) in enumerate(puts):
                coder.put(context, bit)
                ahead = puts[:number + 1]
                self.assertEqual(self.bits_got(coder.octets(), ahead), [told for _, told in ahead])

    def test_states_are_those_of_the_coder(self):
        for puts in sequences():
            coder, decoder = Coder(), Decoder(coder_of(puts).octets())
            with self.subTest(puts=puts[:9], length=len(puts)):
                self.assertEqual(decoder.state(), (0, 2 ** 32, 4))
                for context, bit in puts:
                    coder.put(context, bit)
                    self.assertEqual(decoder.get(context), bit)
                    self.assertEqual(decoder.state(), coder.state())
                    self.assertTrue(is_made_of_integers(decoder.state()))

    def test_any_octets(self):
        source = random.Random(14)
        rows = [(), (0,), (255,), (128,), (127,), (127, 255, 255, 255), (0,) * 90, (255,) * 90, (0, 255) * 20]
        rows += [(255,) * 4, (255,) * 3, (255, 255, 255, 254), (1, 0, 0, 0, 0, 0, 1)]
        for length in (1, 2, 3, 4, 5, 8, 40, 120):
            rows += [tuple(source.randrange(256) for _ in range(length)) for _ in range(4)]
        for octets in rows:
            for contexts in (CONTEXTS[:1], CONTEXTS[:3], CONTEXTS):
                decoder, model = Decoder(octets), ModelDecoder(octets)
                with self.subTest(octets=octets, contexts=len(contexts)):
                    for _ in range(150):
                        context = source.choice(contexts)
                        self.assertEqual(decoder.get(context), model.get(context))
                        self.assertEqual(decoder.state(), model.state())

    def test_octets_ended_too_early(self):
        puts = drawn_puts(random.Random(15), 200, CONTEXTS, 50)
        octets = coder_of(puts).octets()
        for length in range(len(octets)):
            decoder, model = Decoder(octets[:length]), ModelDecoder(octets[:length])
            for context, _ in puts:
                self.assertEqual(decoder.get(context), model.get(context))
            self.assertEqual(decoder.state(), model.state())

    def test_many_more_bits_than_octets(self):
        for octets in ((), (255,), (255,) * 30):
            decoder, model = Decoder(octets), ModelDecoder(octets)
            for number in range(400):
                context = CONTEXTS[number % 3]
                self.assertEqual(decoder.get(context), model.get(context))
            self.assertEqual(decoder.state(), model.state())

    def test_arguments_by_name(self):
        puts = drawn_puts(random.Random(16), 60, CONTEXTS, 50)
        decoder = Decoder(octets=coder_of(puts).octets())
        self.assertEqual([decoder.get(context=context) for context, _ in puts], [bit for _, bit in puts])

    def test_each_decoder_begins_anew(self):
        puts = [(("a",), number % 3 % 2) for number in range(60)]
        octets = coder_of(puts).octets()
        first = Decoder(octets)
        for context, bit in puts[:30]:
            self.assertEqual(first.get(context), bit)
        second = Decoder(octets)
        self.assertEqual(second.state(), (0, 2 ** 32, 4))
        for context, bit in puts:
            self.assertEqual(second.get(context), bit)
        for context, bit in puts[30:]:
            self.assertEqual(first.get(context), bit)

    def test_nothing_that_is_handed_in_changes(self):
        puts = drawn_puts(random.Random(17), 80, CONTEXTS, 40)
        before = copy.deepcopy(puts)
        octets = coder_of(puts).octets()
        kept = tuple(list(octets))
        self.bits_got(octets, puts)
        self.assertEqual(puts, before)
        self.assertEqual(octets, kept)


if __name__ == "__main__":
    unittest.main()
