"""Claims on pictures and streams, and papers with which they are known to be true."""

from picturetide.basics import is_number, is_number_below
from picturetide.choices import price_holds, price_paper, ways_to_predict
from picturetide.edits import all_shown, first_apart
from picturetide.errors import InvalidClaim, Refused
from picturetide.leaves import leaf_told
from picturetide.pictures import BAND_ROWS, SIZES, greatest_error, is_picture, is_row, size_of
from picturetide.reaching import is_pair_of, reach
from picturetide.streams import is_row_of_pictures, is_stream, told_by_stream
from picturetide.trees import BLOCK, SLOTS, is_band_tree, leaves_of_band, price_of_band
from picturetide.units import KINDS

GREATEST_WINDOW = 1


def are_numbers(members):
    """Tell of any values whether all are numbers."""
    return all(is_number(member) for member in members)


def is_within_claim(pictures, units, bounds):
    """Tell of any values whether they are parts of a claim that a stream shows pictures within bounds."""
    if not isinstance(pictures, tuple) or not is_row_of_pictures(pictures) or not is_stream(units):
        return False
    return isinstance(bounds, tuple) and len(bounds) == len(pictures) and are_numbers(bounds)


def is_apart_claim(units, other, number, y, x):
    """Tell of any values whether they are parts of a claim of the first place at which two streams differ."""
    return is_stream(units) and is_stream(other) and are_numbers((number, y, x))


def is_alike_claim(units, other):
    """Tell of any values whether they are parts of a claim that two streams show the same."""
    return is_stream(units) and is_stream(other)


def is_safe_claim(units, lost, number, y, x):
    """Tell of any values whether they are parts of a claim that a loss does not reach a place."""
    if not is_stream(units) or not isinstance(lost, tuple) or not are_numbers((number, y, x)):
        return False
    told = told_by_stream(units)
    return all(is_pair_of(told, pair) for pair in lost)


def is_band(rows):
    """Tell of any value whether it can be the 8 rows of a band."""
    if not isinstance(rows, tuple) or len(rows) != BAND_ROWS or not isinstance(rows[0], tuple):
        return False
    columns = len(rows[0])
    return columns in SIZES and all(is_row(row, columns) for row in rows)


def are_slots(slots, columns):
    """Tell of any value whether it is a tuple of three pictures of so many columns, or None."""
    if not isinstance(slots, tuple) or len(slots) != SLOTS:
        return False
    return all(slot is None or (is_picture(slot) and len(slot[0]) == columns) for slot in slots)


def is_cheapest_claim(rows, top, slots, kind, window, trees):
    """Tell of any values whether they are parts of a claim that trees are the coding of a band of the least price."""
    if not is_band(rows) or not is_number(top) or not are_slots(slots, len(rows[0])):
        return False
    if kind not in KINDS or not is_number_below(window, GREATEST_WINDOW + 1):
        return False
    return is_band_tree(trees, len(rows[0]) // BLOCK)


def holds_within(pictures, units, bounds):
    """Tell whether the stream shows the pictures with differences of at most these."""
    found = all_shown(told_by_stream(units))
    if len(found) != len(pictures) or size_of(found[0]) != size_of(pictures[0]):
        return False
    for picture, other, bound in zip(found, pictures, bounds):
        if greatest_error(picture, other) > bound:
            return False
    return True


def holds_apart(units, other, number, y, x):
    """Tell whether this is the first place at which the streams differ."""
    return first_apart(units, other) == (number, y, x)


def holds_alike(units, other):
    """Tell whether the streams show the same."""
    return first_apart(units, other) is None


def holds_safe(units, lost, number, y, x):
    """Tell whether there is such a place, which the loss does not reach."""
    bands, blocks, many = told_by_stream(units).size
    if number >= many or y >= BAND_ROWS * bands or x >= BLOCK * blocks:
        return False
    return (y, x) not in reach(units, lost)[number]


def is_exact_coding(rows, top, slots, kind, window, trees):
    """Tell whether trees show rows, clip nothing and lie within the window."""
    ways = ways_to_predict(slots, kind, window)
    for y, x, n, leaf in leaves_of_band(trees):
        # What stands ahead shows rows, or the answer is known already; so each leaf is predicted from rows.
        told = leaf_told(rows, top, slots, (y, x, n), leaf)
        if leaf[1:5] not in ways or told != [list(row[x:x + n]) for row in rows[y:y + n]]:
            return False
    return True


def holds_cheapest(rows, top, slots, kind, window, trees, paper):
    """Tell of any value as paper whether it proves that trees are the coding of the least price."""
    if not is_exact_coding(rows, top, slots, kind, window, trees):
        return False
    if not price_holds(rows, top, slots, kind, window, paper):
        return False
    return sum([numbers[0] for numbers in paper]) == price_of_band(trees)


COUNTS_OF_PARTS = {"within": 3, "apart": 5, "alike": 2, "safe": 5, "cheapest": 6}
FORMS = {
    "within": is_within_claim, "apart": is_apart_claim, "alike": is_alike_claim, "safe": is_safe_claim,
    "cheapest": is_cheapest_claim,
}
# Those that are known to be true without a paper.
TRUTHS = {"within": holds_within, "apart": holds_apart, "alike": holds_alike, "safe": holds_safe}


def is_claim(value):
    """Tell of any value whether it is a claim."""
    if not isinstance(value, tuple) or len(value) == 0:
        return False
    word = value[0]
    parts = value[1:]
    if not isinstance(word, str) or word not in FORMS or len(parts) != COUNTS_OF_PARTS[word]:
        return False
    is_form = FORMS[word]
    return is_form(*parts)


def claim_holds(claim, paper):
    """Tell of any values whether this is a claim, and a paper with which it is known to be true."""
    if not is_claim(claim):
        return False
    word = claim[0]
    parts = claim[1:]
    if word == "cheapest":
        return holds_cheapest(*parts, paper)
    holds = TRUTHS[word]
    return isinstance(paper, tuple) and len(paper) == 0 and holds(*parts)


def paper_for(claim):
    """The paper with which a claim holds if it is true."""
    if claim[0] != "cheapest":
        return ()
    _, rows, top, slots, kind, window, _ = claim
    return price_paper(rows, top, slots, kind, window)


def seal_claim(claim):
    """The paper with which a claim holds."""
    if not is_claim(claim):
        raise InvalidClaim(claim)
    paper = paper_for(claim)
    if not claim_holds(claim, paper):
        raise Refused(claim)
    return paper
