import copy
import random
import unittest

from picturetide.desk import Desk, replayed
from picturetide.edits import cut, first_apart, joined
from picturetide.errors import (
    InvalidLine, InvalidNumber, InvalidPicture, InvalidPlan, InvalidStream, InvalidText, NoKey, NothingToUndo, TooLong,
    Undefined, UnknownName,
)
from picturetide.pictures import plain
from picturetide.picturetext import picture_text
from picturetide.reaching import reach_counts
from picturetide.streams import encoded, shown
from samples import picture_of

A, B, WIDE = picture_of(8, 8), picture_of(8, 8, 1), picture_of(16, 8)
TEXTS = {"a": picture_text(A), "b": picture_text(B), "wide": picture_text(WIDE)}
PICTURES = [f"picture {name} {text}" for name, text in TEXTS.items()]
UNITS = encoded((A, B), (("key", 0, 0), ("other", None, 3)), 0)
CODE = "code s 0 a:key:0:0 b:other:-:3"
BANDS = encoded((WIDE,), (("key", None, 9),), 0)
LINES = PICTURES + [CODE, "code w 0 wide:key:-:9", "code one 0 b:key:-:255"]


FULL = replayed(LINES)


def full_desk():
    """A desk of its own with three pictures and three streams."""
    return copy.deepcopy(FULL)


def octets(units):
    return str(sum(len(unit) for unit in units))


def texts(pictures):
    return " ".join(picture_text(picture) for picture in pictures)


class Desks(unittest.TestCase):
    def assert_answers(self, desk, line, answer):
        with self.subTest(line=line):
            self.assertEqual(desk.run(line), answer)
            self.assertIs(type(answer), str)

    def state(self, desk):
        """All that a desk answers to a row of questions, with its lines."""
        answers = []
        for line in ["show s 0", "show s 1", "show w 0", "show one 0", "lose s 0 0", "reach s 0 0", "same s one",
                     "same w w", "show t 0", "show a 0", "show n 0"]:
            answers.append(self.answer(desk, line))
        return answers, desk.lines

    def answer(self, desk, line):
        try:
            return desk.run(line)
        except ValueError as error:
            return type(error), vars(error)

    def assert_raises(self, error, line, fields, desk=None):
        """A line raises this, with these fields, and changes nothing."""
        desk = desk or full_desk()
        before = copy.deepcopy(vars(desk))
        for arguments, named in (((line,), {}), ((), {"line": line})):
            with self.subTest(line=line), self.assertRaises(error) as caught:
                desk.run(*arguments, **named)
            self.assertEqual(vars(caught.exception), fields)
        self.assertEqual(vars(desk), before)


class Answers(Desks):
    def test_picture(self):
        desk = Desk()
        for name in ("a", "z", "abcdefgh", "picture", "undo", "key"):
            for text in TEXTS.values():
                self.assert_answers(desk, f"picture {name} {text}", text)
        self.assertEqual(desk.run(line=f"picture a {TEXTS['a']}"), TEXTS["a"])
        for rows in (8, 16, 24, 32):
            text = picture_text(picture_of(rows, 32))
            self.assert_answers(desk, f"picture big {text}", text)

    def test_code(self):
        desk = full_desk()
        self.assert_answers(desk, CODE, octets(UNITS))
        self.assert_answers(desk, "code w 0 wide:key:-:9", octets(BANDS))
        self.assert_answers(desk, "show s 1", picture_text(shown(UNITS)[1]))
        for window in (0, 1):
            for plan in ((("key", 0, 0), ("other", 1, 0)), (("key", 2, 255), ("key", None, 10)),
                         (("key", 1, 7), ("other", 0, 100))):
                parts = [f"{name}:{kind}:{'-' if keep is None else keep}:{bound}"
                         for name, (kind, keep, bound) in zip("ab", plan)]
                units = encoded((A, B), plan, window)
                self.assert_answers(desk, f"code x {window} {' '.join(parts)}", octets(units))
                self.assert_answers(desk, "show x 1", picture_text(shown(units)[1]))
        # One picture can be coded more than once.
        units = encoded((A, A, A), (("key", 0, 0),) + (("other", None, 0),) * 2, 0)
        self.assert_answers(desk, "code x 0 a:key:0:0 a:other:-:0 a:other:-:0", octets(units))

    def test_show(self):
        desk = full_desk()
        for number, picture in enumerate(shown(UNITS)):
            self.assert_answers(desk, f"show s {number}", picture_text(picture))
        self.assert_answers(desk, "show w 0", picture_text(shown(BANDS)[0]))

    def test_lose(self):
        desk = full_desk()
        self.assert_answers(desk, "lose s 0 0", texts(shown(UNITS[1:])))
        self.assert_answers(desk, "lose s 1 0", texts(shown(UNITS[:1])))
        self.assert_answers(desk, "lose w 0 1", texts(shown(BANDS[:1])))
        self.assert_answers(desk, "lose w 0 0", texts(shown(BANDS[1:])))
        # What is lost is lost for the answer alone.
        self.assert_answers(desk, "show s 1", picture_text(shown(UNITS)[1]))

    def test_reach(self):
        desk = full_desk()
        self.assert_answers(desk, "reach s 0 0", " ".join(map(str, reach_counts(UNITS, [(0, 0)]))))
        self.assert_answers(desk, "reach s 1 0", "0 64")
        self.assert_answers(desk, "reach w 0 1", "64")

    def test_cut_and_join(self):
        desk = full_desk()
        self.assert_answers(desk, "join t s s", "4")
        for number in range(4):
            self.assert_answers(desk, f"show t {number}", picture_text(shown(UNITS)[number % 2]))
        self.assert_answers(desk, "cut n t 2 4", "2")
        self.assert_answers(desk, "same n s", "same")
        self.assert_answers(desk, "cut n t 2 3", "1")
        self.assert_answers(desk, "show n 0", picture_text(A))
        self.assert_answers(desk, "join t one n", "2")
        self.assert_answers(desk, "show t 1", picture_text(A))
        self.assert_answers(desk, "cut t t 1 2", "1")
        self.assert_answers(desk, "show t 0", picture_text(A))
        self.assert_answers(desk, "join s s s", "4")
        self.assert_answers(desk, "join s s s", "8")

    def test_same(self):
        desk = full_desk()
        self.assert_answers(desk, "same s s", "same")
        one = encoded((B,), (("key", None, 255),), 0)
        self.assert_answers(desk, "same s one", " ".join(map(str, first_apart(UNITS, one))))
        self.assert_answers(desk, "same s w", "0 0 0")
        desk.run("cut t s 0 1")
        self.assert_answers(desk, "same t s", "1 0 0")
        self.assert_answers(desk, "same s t", "1 0 0")

    def test_drop(self):
        desk = full_desk()
        for name in ("a", "s"):
            self.assert_answers(desk, f"drop {name}", "")
        self.assert_raises(UnknownName, "drop a", {"name": "a"}, desk)
        self.assert_raises(UnknownName, "show s 0", {"name": "s"}, desk)
        self.assert_raises(UnknownName, CODE, {"name": "a"}, desk)
        self.assert_answers(desk, PICTURES[0], TEXTS["a"])
        self.assert_answers(desk, CODE, octets(UNITS))

    def test_names_that_begin_lines(self):
        desk = full_desk()
        for name in ("undo", "redo", "show", "drop", "same"):
            self.assert_answers(desk, f"join {name} s s", "4")
            self.assert_answers(desk, f"same {name} {name}", "same")
            self.assert_answers(desk, f"join t one {name}", "5")
            self.assert_answers(desk, f"drop {name}", "")
            self.assert_raises(UnknownName, f"same {name} {name}", {"name": name}, desk)

    def test_a_newer_value_in_place_of_the_elder(self):
        desk = full_desk()
        desk.run(f"picture s {TEXTS['b']}")
        self.assert_raises(UnknownName, "show s 0", {"name": "s"}, desk)
        self.assert_answers(desk, "code a 0 s:key:-:0", octets(encoded((B,), (("key", None, 0),), 0)))
        self.assert_raises(UnknownName, "code t 0 a:key:-:0", {"name": "a"}, desk)
        self.assert_answers(desk, "show a 0", TEXTS["b"])
        desk.run(f"picture b {TEXTS['a']}")
        self.assert_answers(desk, "code t 0 b:key:-:0", octets(encoded((A,), (("key", None, 0),), 0)))
        self.assert_answers(desk, "show t 0", TEXTS["a"])

    def test_numbers_of_up_to_six_figures(self):
        self.assert_raises(InvalidNumber, "show s 999999", {"value": 999999})
        self.assert_raises(InvalidNumber, "show s 100000", {"value": 100000})
        self.assert_raises(InvalidLine, "show s 1000000", {"line": "show s 1000000", "at": 7})


class WrongLines(Desks):
    def assert_wrong(self, line, at):
        for desk in (full_desk(), Desk()):
            self.assert_raises(InvalidLine, line, {"line": line, "at": at}, desk)

    def test_no_line(self):
        for line in ("", " ", "  ", "shows s 0", "Show s 0", "sho", "picture:", " show s 0", "\tundo", "undo\n", "a", "0",
                     "lines", "show\ts 0", "picturea"):
            self.assert_wrong(line, 0)

    def test_lines_that_end_too_early(self):
        for line in ("picture", "picture a", "code", "code s", "code s 0", "show", "show s", "lose", "lose s", "lose s 0",
                     "reach", "reach s", "reach s 0", "cut", "cut t", "cut t s", "cut t s 0", "join", "join t",
                     "join t s", "same", "same s", "drop"):
            self.assert_wrong(line, len(line))
            # Behind the blank an empty word begins, which is wrong.
            self.assert_wrong(line + " ", len(line) + 1)

    def test_words_too_many(self):
        for line in ("undo", "redo", "show s 0", "lose s 0 0", "reach s 0 0", "cut t s 0 1", "join t s s", "same s s",
                     "drop a", PICTURES[0]):
            for more in ("", "x", "0", "a b", "!", "a:key:-:0"):
                self.assert_wrong(f"{line} {more}", len(line) + 1)

    def test_two_blanks(self):
        for line in ("picture a 00", "code s 0 a:key:0:0 b:key:0:0", "show s 0", "lose s 0 0", "cut t s 0 1", "join t s s",
                     "same s s", "drop a", "undo"):
            for at in [at for at, sign in enumerate(line) if sign == " "]:
                self.assert_wrong(line[:at] + " " + line[at:], at + 1)
            self.assert_wrong(line + "  ", len(line) + 1)

    def test_names(self):
        for name in ("A", "a1", "1", "abcdefghi", "a-b", "_", "\u00e9", "a:", "aB", "\uff41", "\u00df", "a\n"):
            self.assert_wrong(f"picture {name} {TEXTS['a']}", 8)
            self.assert_wrong(f"code {name} 0 a:key:-:0", 5)
            self.assert_wrong(f"code s 0 {name}:key:-:0", 9)
            self.assert_wrong(f"show {name} 0", 5)
            self.assert_wrong(f"lose {name} 0 0", 5)
            self.assert_wrong(f"reach {name} 0 0", 6)
            self.assert_wrong(f"cut {name} s 0 1", 4)
            self.assert_wrong(f"cut t {name} 0 1", 6)
            self.assert_wrong(f"join {name} s s", 5)
            self.assert_wrong(f"join t {name} s", 7)
            self.assert_wrong(f"join t s {name}", 9)
            self.assert_wrong(f"same {name} s", 5)
            self.assert_wrong(f"same s {name}", 7)
            self.assert_wrong(f"drop {name}", 5)

    def test_numbers(self):
        for figures in ("00", "01", "-1", "+1", "1.0", "x", "1000000", "0000000", "1a", "\u0661", "\u00b2", "1_0", "0x1"):
            self.assert_wrong(f"show s {figures}", 7)
            for word, at in (("lose", 7), ("reach", 8)):
                self.assert_wrong(f"{word} s {figures} 0", at)
                self.assert_wrong(f"{word} s 0 {figures}", at + 2)
            self.assert_wrong(f"cut t s {figures} 1", 8)
            self.assert_wrong(f"cut t s 0 {figures}", 10)

    def test_windows(self):
        for window in ("2", "00", "01", "10", "-", "-1", "a", "a:key:-:0", "1.", "\u0661"):
            self.assert_wrong(f"code s {window} a:key:-:0", 7)

    def test_parts(self):
        wrong = ["a", "a:key", "a:key:-", "a:key:-:", ":key:-:0", "a::-:0", "a:key::0", "a:key:-:0:", "a:key:-:0:0", ":::",
                 "a:Key:-:0", "a:keys:-:0", "a:motion:-:0", "a:key:3:0", "a:key:--:0", "a:key:00:0", "a:key:01:0",
                 "a:key:-1:0", "a:key:None:0", "a:key:-:256", "a:key:-:00", "a:key:-:01", "a:key:-:-1", "a:key:-:1000",
                 "a:key:-:1000000", "a:key:-:x", "a;key;-;0", "a:other:\u0661:0", "a:other:0:\u0661", "a:key:-:255a"]
        for part in wrong:
            self.assert_wrong(f"code s 0 {part}", 9)
            self.assert_wrong(f"code s 1 a:key:-:0 {part}", 19)
            self.assert_wrong(f"code s 1 a:key:-:0 {part} b:key:-:0", 19)
        desk = full_desk()
        for keep in ("-", "0", "1", "2"):
            for bound in ("0", "1", "10", "255"):
                for kind in ("key", "other"):
                    desk.run(f"code t 0 a:key:0:0 b:{kind}:{keep}:{bound}")

    def test_the_first_wrong_word(self):
        for line, at in (("show S x", 5), ("show s x y", 7), ("cut T S 0", 4), ("cut t S 00", 6), ("cut t s 0 x 1", 10),
                         ("code S 2 a", 5), ("code s 2 a", 7), ("code s 0 a b", 9), ("same s S x", 7), ("join t s", 8),
                         ("join t S", 7), ("picture A", 8), ("lose s 0", 8), ("lose s x", 7), ("drop A b", 5)):
            self.assert_wrong(line, at)

    def test_ahead_of_names_that_are_not_known(self):
        for line, at in (("show nobody x", 12), ("cut t nobody 0 x", 15), ("code s 0 nobody:key:-:256", 9),
                         ("same nobody A", 12), ("drop nobody x", 12), ("lose nobody 0", 13)):
            self.assert_wrong(line, at)


class UnknownNames(Desks):
    def assert_unknown(self, line, name, desk=None):
        self.assert_raises(UnknownName, line, {"name": name}, desk)

    def test_names_without_a_value(self):
        for line in ("show x 0", "lose x 0 0", "reach x 0 0", "cut t x 0 1", "join t x s", "join t s x", "same x s",
                     "same s x", "drop x", "code t 0 x:key:-:0", "code t 0 a:key:-:0 x:key:-:0"):
            self.assert_unknown(line, "x")

    def test_values_of_the_other_sort(self):
        for line in ("show a 0", "lose a 0 0", "reach a 0 0", "cut t a 0 1", "join t a s", "join t s a", "same a s",
                     "same s a"):
            self.assert_unknown(line, "a")
        for line in ("code t 0 s:key:-:0", "code t 0 a:key:-:0 s:key:-:0", "code s 0 s:key:-:0"):
            self.assert_unknown(line, "s")

    def test_the_first_name_by_its_place(self):
        for line, name in (("join t x y", "x"), ("join t y x", "y"), ("join t s y", "y"), ("join t a x", "a"),
                           ("same x a", "x"), ("same a x", "a"), ("code t 0 x:key:-:0 y:key:-:0", "x"),
                           ("code t 0 a:key:-:0 y:key:-:0 x:key:-:0", "y"), ("code t 0 s:key:-:0 x:key:-:0", "s")):
            self.assert_unknown(line, name)

    def test_the_name_that_gets_a_value_is_not_asked(self):
        desk = full_desk()
        for line in ("cut new s 0 1", "join newer s s", "code newest 0 a:key:-:0", f"picture newe {TEXTS['a']}",
                     "cut a s 0 1", "join b s s"):
            desk.run(line)
        self.assert_unknown("cut x x 0 1", "x")
        self.assert_unknown("code x 0 x:key:-:0", "x")

    def test_ahead_of_what_functions_raise(self):
        for line, name in (("show x 99", "x"), ("lose x 9 9", "x"), ("cut t x 9 9", "x"), ("join t w x", "x"),
                           ("code t 0 a:other:-:0 x:key:-:0", "x"), ("code t 0 a:key:-:0 wide:key:-:0 x:key:-:0", "x")):
            self.assert_unknown(line, name)

    def test_on_an_empty_desk(self):
        for line in ("show s 0", "drop s", "same s s", "code t 0 s:key:-:0"):
            self.assert_unknown(line, "s", Desk())


class Faults(Desks):
    def test_texts(self):
        for text, at in (("0", 1), ("x", 0), (TEXTS["a"] + "/", len(TEXTS["a"]) + 1), (TEXTS["a"][:-1], None), ("00:", 2),
                         (TEXTS["a"].upper(), None), ("\u00e9", 0), ("00\t", 2)):
            line = f"picture x {text}"
            desk = full_desk()
            before = copy.deepcopy(vars(desk))
            with self.subTest(text=text), self.assertRaises(InvalidText) as caught:
                desk.run(line)
            self.assertEqual(caught.exception.text, text)
            if at is not None:
                self.assertEqual(caught.exception.at, at)
            self.assertEqual(vars(desk), before)

    def test_pictures_of_unlike_sizes(self):
        self.assert_raises(InvalidPicture, "code t 0 a:key:-:0 wide:key:-:0", {"value": (A, WIDE)})
        self.assert_raises(InvalidPicture, "code t 0 wide:other:-:0 a:key:-:0", {"value": (WIDE, A)})

    def test_plans(self):
        self.assert_raises(InvalidPlan, "code t 0 a:other:-:0", {"value": (("other", None, 0),)})
        self.assert_raises(InvalidPlan, "code t 1 a:other:2:7 b:key:-:0", {"value": (("other", 2, 7), ("key", None, 0))})

    def test_numbers(self):
        for number in (2, 3, 999999):
            self.assert_raises(InvalidNumber, f"show s {number}", {"value": number})
        for number, band in ((2, 0), (0, 1), (5, 5), (999999, 0), (0, 999999)):
            self.assert_raises(InvalidNumber, f"lose s {number} {band}", {"value": (number, band)})
            self.assert_raises(InvalidNumber, f"reach s {number} {band}", {"value": (number, band)})
        for start, end, value in ((2, 3, 2), (0, 3, 3), (0, 0, 0), (1, 1, 1), (1, 0, 0), (9, 9, 9)):
            self.assert_raises(InvalidNumber, f"cut t s {start} {end}", {"value": value})

    def test_a_cut_that_does_not_begin_with_a_key_picture(self):
        self.assert_raises(NoKey, "cut t s 1 2", {"number": 1})

    def test_joints(self):
        self.assert_raises(InvalidStream, "join t s w", {"value": BANDS})
        self.assert_raises(InvalidStream, "join t w s", {"value": UNITS})
        desk = full_desk()
        for line in ("join t s s", "join t t t", "join n t s", "join n n s"):
            desk.run(line)
        self.assertEqual(desk.run("same n n"), "same")
        self.assert_raises(TooLong, "join x n s", {"number": 14}, desk)
        self.assert_raises(TooLong, "join n n one", {"number": 13}, desk)

    def test_nothing_shown(self):
        self.assert_raises(Undefined, "lose one 0 0", {"what": "picture"})
        # Nowhere else: the same numbers elsewhere have an answer, and wrong ones raise what they raise.
        self.assert_raises(InvalidNumber, "lose one 0 1", {"value": (0, 1)})
        self.assert_raises(InvalidNumber, "lose one 1 0", {"value": (1, 0)})
        self.assertEqual(full_desk().run("reach one 0 0"), "64")

    def test_nothing_to_undo(self):
        self.assert_raises(NothingToUndo, "undo", {"word": "undo"}, Desk())
        self.assert_raises(NothingToUndo, "redo", {"word": "redo"}, Desk())
        self.assert_raises(NothingToUndo, "redo", {"word": "redo"})
        desk = Desk()
        desk.run(PICTURES[0])
        desk.run("undo")
        self.assert_raises(NothingToUndo, "undo", {"word": "undo"}, desk)
        desk.run("redo")
        self.assert_raises(NothingToUndo, "redo", {"word": "redo"}, desk)


class Undoing(Desks):
    def test_the_lines_that_gave_or_took_names(self):
        desk = Desk()
        self.assertEqual(desk.lines, ())
        for number, line in enumerate(LINES):
            desk.run(line)
            self.assertEqual(desk.lines, tuple(LINES[:number + 1]))
            self.assertIs(type(desk.lines), tuple)
        for line in ("show s 0", "lose s 0 0", "reach s 0 0", "same s s"):
            desk.run(line)
            self.assertEqual(desk.lines, tuple(LINES))
        more = ["cut t s 0 1", "join t t t", "drop a", "drop t"]
        for line in more:
            desk.run(line)
        self.assertEqual(desk.lines, tuple(LINES + more))

    def test_undo_and_redo_of_each_line(self):
        lines = LINES + ["cut t s 0 1", f"picture s {TEXTS['b']}", "drop s", CODE, "drop a", "join n t t", "drop n"]
        desk = Desk()
        states = [self.state(desk)]
        for line in lines:
            desk.run(line)
            states.append(self.state(desk))
        for number in range(len(lines) - 1, -1, -1):
            self.assert_answers(desk, "undo", "")
            self.assertEqual(self.state(desk), states[number])
        for number in range(1, len(lines) + 1):
            self.assert_answers(desk, "redo", "")
            self.assertEqual(self.state(desk), states[number])

    def test_a_new_line_ends_redo(self):
        desk = full_desk()
        desk.run("undo")
        desk.run("undo")
        desk.run("drop a")
        self.assert_raises(NothingToUndo, "redo", {"word": "redo"}, desk)
        self.assertEqual(desk.lines, tuple(LINES[:-2]) + ("drop a",))
        desk.run("undo")
        desk.run("redo")
        self.assert_raises(UnknownName, CODE, {"name": "a"}, desk)
        self.assert_raises(NothingToUndo, "redo", {"word": "redo"}, desk)

    def test_lines_that_tell_or_raise_do_not_end_redo(self):
        desk = full_desk()
        desk.run("undo")
        for line in ("show s 0", "reach s 0 0", "same s s", "lose s 0 0"):
            desk.run(line)
        for line in ("show one 0", "drop x", "picture x 0", "cut t s 1 2", "code t 0 a:other:-:0", "", "join t s w"):
            with self.assertRaises(ValueError):
                desk.run(line)
        self.assert_answers(desk, "redo", "")
        self.assertEqual(desk.lines, tuple(LINES))
        self.assert_answers(desk, "show one 0", picture_text(shown(encoded((B,), (("key", None, 255),), 0))[0]))

    def test_two_desks_keep_apart(self):
        desk, other = full_desk(), Desk()
        self.assertEqual(other.lines, ())
        self.assert_raises(UnknownName, "show s 0", {"name": "s"}, other)
        other.run(PICTURES[1])
        desk.run("drop b")
        self.assertEqual(other.run("code t 0 b:key:-:0"), octets(encoded((B,), (("key", None, 0),), 0)))


class Replaying(Desks):
    def test_lines_stay_as_they_are(self):
        for lines in (list(LINES), tuple(LINES)):
            before = copy.deepcopy(lines)
            desk = replayed(lines)
            self.assertIsInstance(desk, Desk)
            self.assertEqual(replayed(lines=lines).lines, tuple(LINES))
            desk.run("drop a")
            desk.run("undo")
            desk.run("undo")
            self.assertEqual(lines, before)
            self.assertEqual(desk.lines, tuple(LINES[:-1]))
        self.assertEqual(replayed(()).lines, ())
        self.assertEqual(replayed([]).lines, ())

    def test_lines_of_every_kind(self):
        desk = replayed(LINES + ["show s 0", "drop a", "undo", "undo", "redo", "undo"])
        self.assertEqual(desk.lines, tuple(LINES[:-1]))
        self.assertEqual(desk.run("redo"), "")

    def test_what_run_raises(self):
        for line, error in (("", InvalidLine), ("show x 0", UnknownName), ("redo", NothingToUndo),
                            ("picture x 0", InvalidText), ("lose one 0 0", Undefined), ("cut t s 1 2", NoKey)):
            with self.subTest(line=line), self.assertRaises(error):
                replayed(LINES + [line])

    def drawn_line(self, source):
        name, other, third = (source.choice("abst") for _ in range(3))
        number, second = source.randrange(3), source.randrange(3)
        return source.choice([
            f"picture {name} {picture_text(plain(8, 8, source.randrange(256)))}", f"code {name} 0 {other}:key:0:0",
            f"code {name} 0 {other}:key:0:0 {third}:other:-:9", f"cut {name} {other} {number} {number + 1}",
            f"join {name} {other} {third}", f"drop {name}", "undo", "undo", "redo", f"show {name} {number}",
            f"lose {name} {number} 0", f"reach {name} {number} {second}", f"same {name} {other}", f"drop  {name}",
        ])

    def test_a_desk_and_one_replayed_answer_alike(self):
        source = random.Random(171)
        answered = 0
        for _ in range(12):
            desk = Desk()
            for name in "ab":
                desk.run(f"picture {name} {picture_text(plain(8, 8, source.randrange(256)))}")
            for _ in range(40):
                line = self.drawn_line(source)
                answered += isinstance(self.answer(desk, line), str)
            other = replayed(desk.lines)
            self.assertEqual(other.lines, desk.lines)
            for name in "abst":
                for line in (f"show {name} 0", f"show {name} 1", f"reach {name} 0 0", f"same {name} s",
                             f"code x 0 {name}:key:-:0"):
                    self.assertEqual(self.answer(other, line), self.answer(desk, line))
            while desk.lines:
                self.assertEqual(other.run("undo"), desk.run("undo"))
                self.assertEqual(other.lines, desk.lines)
                for name in "abst":
                    self.assertEqual(self.answer(other, f"show {name} 0"), self.answer(desk, f"show {name} 0"))
        self.assertGreater(answered, 100)

    def test_equal_lines_give_equal_answers(self):
        streams = [cut(joined(UNITS, UNITS), 2, 4), UNITS]
        self.assertEqual(first_apart(*streams), None)
        self.assertEqual(self.state(full_desk()), self.state(full_desk()))


if __name__ == "__main__":
    unittest.main()
