"""Reasons of lines, written and read."""

from linecourt.reasons import REASONS, is_reason
from linecourt.sumtexts import is_number_text, parted

TIMES = "times"


def piece_words(place, piece):
    """The words of what stands at a place of a reason."""
    if place == "T":
        return [TIMES, *[str(number) for number in piece]]
    if place in ("K", "B"):
        return [str(number) for number in piece]
    return [str(piece)]


def reason_words(reason):
    """The words that a reason is written with."""
    told = [reason[0]]
    for place, piece in zip(REASONS[reason[0]], reason[1:]):
        told.extend(piece_words(place, piece))
    return told


def split_words(shape, words):
    """The words of a reason's parts, one for each: a list of them where the part is a tuple."""
    if "T" in shape:
        return parted(words, TIMES)
    if "K" in shape or "B" in shape:
        many = len(shape) - 1
        return [*words[:many], words[many:]]
    return words


def read_number(word):
    """The number that is written so; None where there is none."""
    return int(word) if is_number_text(word) else None


def read_piece(place, piece):
    """What is written so at a place of a reason; what can't be there shows in the reason."""
    if place == "k":
        return read_number(piece)
    if place in ("K", "B", "T"):
        return tuple([read_number(word) for word in piece])
    return piece


def read_reason(words):
    """The reason that is written so, the numbers of lines being any from 1 on; None where there is none."""
    if not words or words[0] not in REASONS:
        return None
    shape = REASONS[words[0]]
    parts = split_words(shape, words[1:])
    if len(parts) != len(shape):
        return None
    reason = (words[0], *[read_piece(place, piece) for place, piece in zip(shape, parts)])
    # How many lines there are isn't known yet.
    most = max([int(word) for word in words if is_number_text(word)], default=0)
    return reason if is_reason(reason, most) else None
