"""Formulas about tellings, written without them."""

from whoknows.signs import ALWAYS, AND, COMMON, NOT, OR, TELLING
from whoknows.signs import parts

LARGEST = 3000


class Piece:
    """A formula reduced.

    Its size may be beyond all bounds, so its signs are written out only up to the largest size answered;
    else they are None. How many of them are guarded is kept, for the size of what is behind a told one.
    """

    def __init__(self, size, guarded, signs):
        self.size = size
        self.guarded = guarded
        self.signs = signs


def is_guarded(sign):
    """Whether the sign, behind p, becomes `(~p|..)`."""
    return sign not in (ALWAYS, AND, OR)


def tells_common(signs):
    """Whether a C stands in the g of a `[f]g`."""
    with_common = []
    for sign in reversed(signs):
        found = [with_common.pop() for part in range(parts(sign))]
        if sign == TELLING and found[1]:
            return True
        with_common.append(sign == COMMON or any(found))
    return False


def reduced(signs):
    """The signs of the formula reduced, or None if there would be too many. No C is told behind."""
    pieces = []
    for sign in reversed(signs):
        found = [pieces.pop() for part in range(parts(sign))]
        if sign == TELLING:
            pieces.append(behind(found[1], found[0]))
        else:
            pieces.append(joined(sign, found))
    return pieces.pop().signs


def joined(sign, found):
    """The piece of the sign with the pieces found."""
    size = 1 + sum([piece.size for piece in found])
    guarded = sum([piece.guarded for piece in found])
    if is_guarded(sign):
        guarded = guarded + 1
    if size > LARGEST:
        return Piece(size, guarded, None)
    signs = [sign]
    for piece in found:
        signs.extend(piece.signs)
    return Piece(size, guarded, signs)


def behind(piece, told):
    """The piece behind the told one."""
    # Where no sign is guarded the told one leaves nothing, however large it is; its signs are not asked for.
    size = piece.size + piece.guarded * (told.size + 2)
    guarded = piece.guarded * (told.guarded + 2)
    if size > LARGEST:
        return Piece(size, guarded, None)
    signs = []
    for sign in piece.signs:
        if is_guarded(sign):
            signs.extend([OR, NOT])
            signs.extend(told.signs)
        signs.append(sign)
    return Piece(size, guarded, signs)
