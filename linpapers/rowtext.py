"""The texts of rows and of systems: how they are written, and how they are read."""

from linpapers.errors import LineError, TextError
from linpapers.limits import DIGITS, LETTERS, ROWS, UNKNOWNS
from linpapers.numbers import MINUS_ONE, ONE, ZERO, minus, number, times
from linpapers.rows import row, unknowns

_DIGIT_CHARS = "0123456789"
_LETTER_CHARS = "abcdefghijklmnopqrstuvwxyz"

# The kinds of tokens that may stand behind one of each kind, but for a second sign.
_BEHIND = {
    "number": ("unknown", "+", "-", "sign"),
    "unknown": ("+", "-", "sign"),
    "+": ("number", "unknown"),
    "-": ("number", "unknown"),
    "sign": ("number", "unknown", "-"),
}

# Python refuses to write integers of thousands of digits at once.
_BLOCK_DIGITS = 64
_BLOCK = 10 ** 64


def format_row(some_row):
    """Return the text of a normal row."""
    parts, sign, bound = some_row
    return f"{_sum_text(parts)} {sign} {_number_text(bound)}"


def format_system(system):
    """Return the text of a system: the texts of its rows, each with a newline behind it."""
    return "".join([format_row(some_row) + "\n" for some_row in system])


def read_row(text):
    """Return the row of a text of a comparison."""
    tokens, wrong = _tokens(text)
    _check(text, tokens, wrong)
    return _row_of([token for _, token in tokens])


def read_system(text):
    """Return the list of the rows of a text of a system."""
    lines = text.split("\n")
    if lines[-1] == "":
        lines.pop()
    system = []
    for line, line_text in enumerate(lines, start=1):
        try:
            system.append(read_row(line_text))
        except TextError as fault:
            raise LineError(line, fault.place, fault.what) from fault
    if len(system) > ROWS:
        raise LineError(len(lines) + 1, 0, "too many rows")
    if len(unknowns(system)) > UNKNOWNS:
        raise LineError(len(lines) + 1, 0, "too many unknowns")
    return system


def _sum_text(parts):
    """Return the text of the sum of parts whose numbers are integers."""
    if not parts:
        return "0"
    text = ""
    for unknown, (top, _) in parts:
        if text == "":
            text = "-" if top < 0 else ""
        else:
            text += " - " if top < 0 else " + "
        text += unknown if abs(top) == 1 else f"{_digits(abs(top))} {unknown}"
    return text


def _number_text(value):
    """Return the text of a number."""
    top, bottom = value
    sign = "-" if top < 0 else ""
    below = "" if bottom == 1 else f"/{_digits(bottom)}"
    return f"{sign}{_digits(abs(top))}{below}"


def _digits(whole):
    """Return the digits of an integer of at least 0."""
    blocks = []
    while whole >= _BLOCK:
        whole, block = divmod(whole, _BLOCK)
        blocks.append(str(block).zfill(_BLOCK_DIGITS))
    blocks.append(str(whole))
    return "".join(reversed(blocks))


def _tokens(text):
    """Return the pairs (place, token) ahead of the first character that belongs to no token, and its place or None."""
    tokens = []
    at = 0
    while at < len(text):
        if text[at] == " ":
            at += 1
            continue
        end = _token_end(text, at)
        if end == at:
            return tokens, at
        tokens.append((at, text[at:end]))
        if _is_cut_off(text, at, end):
            return tokens, end
        at = end
    return tokens, None


def _token_end(text, at):
    """Return the place behind the longest token that begins at a place, the place itself if none does."""
    if text[at] in _DIGIT_CHARS:
        return _number_end(text, at)
    if text[at] in _LETTER_CHARS:
        return _run_end(text, at, _LETTER_CHARS + _DIGIT_CHARS, LETTERS)
    if text[at:at + 2] in ("<=", ">="):
        return at + 2
    if text[at] in "+-<=>":
        return at + 1
    return at


def _number_end(text, at):
    """Return the place behind the number that begins at a place."""
    end = _digits_end(text, at)
    below = text[end + 1:end + 2]
    if text[end:end + 1] == "/" and below != "" and below in _DIGIT_CHARS and below != "0":
        return _digits_end(text, end + 1)
    return end


def _digits_end(text, at):
    """Return the place behind the digits without zeros in front that begin at a place."""
    if text[at] == "0":
        return at + 1
    return _run_end(text, at, _DIGIT_CHARS, DIGITS)


def _run_end(text, at, chars, most):
    """Return the place behind the longest run of some characters, at most so many, that begins at a place."""
    end = at
    while end < len(text) and end - at < most and text[end] in chars:
        end += 1
    return end


def _is_cut_off(text, at, end):
    """Tell whether the character behind a token would belong to it, but for a zero in front or a limit."""
    if end == len(text):
        return False
    if text[at] in _LETTER_CHARS:
        return text[end] in _LETTER_CHARS or text[end] in _DIGIT_CHARS
    return text[at] in _DIGIT_CHARS and text[end] in _DIGIT_CHARS


def _kind(token):
    """Return the kind of a token."""
    if token[0] in _DIGIT_CHARS:
        return "number"
    if token[0] in _LETTER_CHARS:
        return "unknown"
    if token in ("+", "-"):
        return token
    return "sign"


def _check(text, tokens, wrong):
    """Raise TextError for the first fault of a text, of which wrong is the place where its tokens end, or None."""
    # A side begins as it does behind a sign.
    before, signs = "sign", 0
    for at, token in tokens:
        kind = _kind(token)
        if kind not in _BEHIND[before] or (kind == "sign" and signs == 1):
            raise TextError(at, "not expected")
        if kind == "sign":
            signs += 1
        before = kind
    if wrong is not None:
        raise TextError(wrong, "not a token")
    if signs == 0 or before not in ("number", "unknown"):
        raise TextError(len(text), "not finished")


def _row_of(tokens):
    """Return the row of the tokens of a comparison without faults."""
    pairs, sign, bound = [], "", ZERO
    # What the next item is multiplied by to be brought to the left: 1 or -1 by its side
    # and by what stands ahead of it, and then the number ahead of its unknown.
    side = factor = ONE
    for place, token in enumerate(tokens):
        kind = _kind(token)
        if kind == "sign":
            sign = token
            side = factor = MINUS_ONE
        elif kind == "unknown":
            pairs.append((token, factor))
        elif kind == "number":
            factor = times(factor, _number_of(token))
            if place + 1 == len(tokens) or _kind(tokens[place + 1]) != "unknown":
                bound = minus(bound, factor)
        else:
            factor = side if token == "+" else times(side, MINUS_ONE)
    return row(pairs, sign, bound)


def _number_of(token):
    """Return the number that a token says."""
    top, _, bottom = token.partition("/")
    return number(int(top), int(bottom or "1"))
