"""A desk: pictures and streams kept by name, worked on by lines of text that can be undone."""

from picturetide.edits import cut, first_apart, joined, shown_from
from picturetide.errors import InvalidLine, NothingToUndo, Undefined, UnknownName
from picturetide.fitting import octets_in
from picturetide.pictures import VALUE_LIMIT
from picturetide.picturetext import picture_text, read_picture
from picturetide.reaching import check_lost, reach_counts
from picturetide.streams import encoded, kinds_of, shown, told_by_stream
from picturetide.units import KINDS

LONGEST_NAME = 8
MOST_FIGURES = 6
FIGURES = "0123456789"
WINDOWS = ("0", "1")
KEEPS = ("-", "0", "1", "2")

# What the words of a line behind its first one must be: "new" is a name that gets a value; "stream" and "any" are names
# of which a stream or any value is asked; a "part" begins with a name of which a picture is asked.
FORMS = {
    "picture": ("new", "text"),
    "code": ("new", "window", "part"),
    "show": ("stream", "number"),
    "lose": ("stream", "number", "number"),
    "reach": ("stream", "number", "number"),
    "cut": ("new", "stream", "number", "number"),
    "join": ("new", "stream", "stream"),
    "same": ("stream", "stream"),
    "drop": ("any",),
    "undo": (),
    "redo": (),
}


def is_name(word):
    """Tell whether a word can be a name."""
    return 1 <= len(word) <= LONGEST_NAME and all("a" <= sign <= "z" for sign in word)


def is_told_number(word):
    """Tell whether a word tells a number by figures."""
    if not 1 <= len(word) <= MOST_FIGURES or not all(sign in FIGURES for sign in word):
        return False
    return word == "0" or word[0] != "0"


def is_window(word):
    """Tell whether a word tells a window."""
    return word in WINDOWS


def is_text(word):
    """Tell whether a word can be the text of a picture, as far as a line tells."""
    return len(word) > 0


def is_part(word):
    """Tell whether a word tells a picture's name and its part of a plan."""
    pieces = word.split(":")
    if len(pieces) != 4:
        return False
    name, kind, keep, bound = pieces
    if not is_name(name) or kind not in KINDS or keep not in KEEPS:
        return False
    return is_told_number(bound) and int(bound) < VALUE_LIMIT


RIGHT_WORDS = {
    "new": is_name, "stream": is_name, "any": is_name, "number": is_told_number, "window": is_window, "text": is_text,
    "part": is_part,
}


def is_right(need, word):
    """Tell whether a word is as it must be there."""
    is_form = RIGHT_WORDS[need]
    return is_form(word)


def needs_of(words):
    """What the words of a line behind its first one must be; of parts there can be several."""
    needs = FORMS[words[0]]
    if words[0] == "code":
        return needs + ("part",) * (len(words) - 1 - len(needs))
    return needs


def read_line(line):
    """The words of a line; InvalidLine if it has no form of a line."""
    words = line.split(" ")
    if words[0] not in FORMS:
        raise InvalidLine(line, 0)
    needs = needs_of(words)
    at = len(words[0]) + 1
    for number, word in enumerate(words[1:]):
        if number >= len(needs) or not is_right(needs[number], word):
            raise InvalidLine(line, at)
        at = at + len(word) + 1
    if len(words) - 1 < len(needs):
        raise InvalidLine(line, len(line))
    return words


def name_of_part(word):
    """The name of the picture of a part."""
    return word.split(":")[0]


def check_names(kept, words):
    """Raise UnknownName with the first name of which a value is asked that is not kept."""
    for need, word in zip(needs_of(words), words[1:]):
        name = name_of_part(word)
        sort = "picture" if need == "part" else need
        if sort in ("picture", "stream", "any") and (name not in kept or sort not in ("any", kept[name][0])):
            raise UnknownName(name)


def value_of(kept, name):
    """The picture or the stream of this name."""
    return kept[name][1]


def number_pair(words):
    """The pair of numbers behind the name of a stream."""
    return (int(words[2]), int(words[3]))


def joined_texts(members):
    """These numbers, parted by blanks."""
    return " ".join([str(member) for member in members])


def picture_given(kept, words):
    """What the line "picture" gives: the sort and the value, and the answer."""
    picture = read_picture(words[2])
    return ("picture", picture, picture_text(picture))


def plan_of(parts):
    """The plan that the parts of a line tell."""
    plan = []
    for part in parts:
        _, kind, keep, bound = part.split(":")
        plan.append((kind, None if keep == "-" else int(keep), int(bound)))
    return tuple(plan)


def code_given(kept, words):
    """What the line "code" gives."""
    parts = words[3:]
    pictures = tuple([value_of(kept, name_of_part(part)) for part in parts])
    units = encoded(pictures, plan_of(parts), int(words[2]))
    return ("stream", units, str(octets_in(units)))


def count_told(units):
    """How many pictures a stream has, as a text."""
    return str(len(kinds_of(units)))


def cut_given(kept, words):
    """What the line "cut" gives."""
    units = cut(value_of(kept, words[2]), int(words[3]), int(words[4]))
    return ("stream", units, count_told(units))


def join_given(kept, words):
    """What the line "join" gives."""
    units = joined(value_of(kept, words[2]), value_of(kept, words[3]))
    return ("stream", units, count_told(units))


def show_told(kept, words):
    """The answer of the line "show"."""
    return picture_text(shown_from(value_of(kept, words[1]), int(words[2])))


def lose_told(kept, words):
    """The answer of the line "lose"."""
    units = value_of(kept, words[1])
    told = told_by_stream(units)
    pair = number_pair(words)
    check_lost(told, (pair,))
    pictures = shown([unit for unit in units if unit != told.units[pair]])
    if len(pictures) == 0:
        raise Undefined("picture")
    return " ".join([picture_text(picture) for picture in pictures])


def reach_told(kept, words):
    """The answer of the line "reach"."""
    return joined_texts(reach_counts(value_of(kept, words[1]), (number_pair(words),)))


def same_told(kept, words):
    """The answer of the line "same"."""
    place = first_apart(value_of(kept, words[1]), value_of(kept, words[2]))
    return "same" if place is None else joined_texts(place)


GIVEN = {"picture": picture_given, "code": code_given, "cut": cut_given, "join": join_given}
TOLD = {"show": show_told, "lose": lose_told, "reach": reach_told, "same": same_told}


class Desk:
    """Pictures and streams by name, and the lines that gave and took the names."""

    def __init__(self):
        self.lines = ()
        # What is kept by name ahead of all lines and after each of them: for each name the sort and the value.
        self.states = [{}]
        # The lines that are undone, each with what is kept after it; the one undone last comes last.
        self.undone = []

    def run(self, line):
        """Do one line; the answer."""
        words = read_line(line)
        check_names(self.states[-1], words)
        if words[0] == "undo":
            return self.undo()
        if words[0] == "redo":
            return self.redo()
        if words[0] in TOLD:
            tell = TOLD[words[0]]
            return tell(self.states[-1], words)
        return self.change(line, words)

    def change(self, line, words):
        """Do a line that gives or takes a name; the answer."""
        kept = dict(self.states[-1])
        answer = ""
        if words[0] == "drop":
            del kept[words[1]]
        else:
            give = GIVEN[words[0]]
            sort, value, answer = give(kept, words)
            kept[words[1]] = (sort, value)
        self.add_line(line, kept)
        self.undone = []
        return answer

    def add_line(self, line, kept):
        """Let a line be the last one, after which this is kept."""
        self.lines = self.lines + (line,)
        self.states.append(kept)

    def undo(self):
        """Take the last line back."""
        if len(self.lines) == 0:
            raise NothingToUndo("undo")
        self.undone.append((self.lines[-1], self.states.pop()))
        self.lines = self.lines[:-1]
        return ""

    def redo(self):
        """Do the line again that was undone last."""
        if len(self.undone) == 0:
            raise NothingToUndo("redo")
        line, kept = self.undone.pop()
        self.add_line(line, kept)
        return ""


def replayed(lines):
    """A desk on which these lines are run."""
    desk = Desk()
    for line in lines:
        desk.run(line)
    return desk
