"""Formulas of rows: where they are true, their plain forms, and their texts."""

from linpapers.errors import FormulaError, TextError
from linpapers.limits import DEPTH, FORMULAS, PARTS, UNKNOWNS
from linpapers.rows import holds, opposites, unknowns
from linpapers.rowtext import format_row, read_row

_LETTERS = "abcdefghijklmnopqrstuvwxyz"

# The word of a formula that is true where the parts of another one are false.
_TURNED = {"and": "or", "or": "and", "true": "false", "false": "true"}

# From weak to strong; all other words are stronger.
_STRENGTHS = {"or": 0, "and": 1, "not": 2}
_STRONGEST = 3

# The tokens that may begin a formula, and those that may stand behind one; a
# closing bracket may, too, where one was opened.
_BEGINNINGS = ("(", "[", "not", "true", "false")
_JOINING = ("and", "or")


def is_true(formula, point):
    """Tell whether a point makes a formula true."""
    word = formula[0]
    if word == "row":
        return holds(formula[1], point)
    if word == "not":
        return not is_true(formula[1], point)
    if word == "and":
        return all([is_true(part, point) for part in formula[1]])
    if word == "or":
        return any([is_true(part, point) for part in formula[1]])
    return word == "true"


def plain(formula):
    """Return the plain form of a formula."""
    word = formula[0]
    if word == "not":
        return _plain_not(formula[1])
    if word in _JOINING:
        return (word, tuple([plain(part) for part in formula[1]]))
    return formula


def _plain_not(formula):
    """Return the plain form of the `not` of a formula."""
    word = formula[0]
    if word == "not":
        return plain(formula[1])
    if word in _JOINING:
        return (_TURNED[word], tuple([_plain_not(part) for part in formula[1]]))
    if word == "row":
        return _joined("or", [("row", opposite) for opposite in opposites(formula[1])])
    return (_TURNED[word],)


def _joined(word, formulas):
    """Return the `and` or `or` of formulas, or the formula itself if it is only one."""
    if len(formulas) == 1:
        return formulas[0]
    return (word, tuple(formulas))


def unknowns_of(formula):
    """Return the ascending unknowns of the rows of a formula."""
    return unknowns([inner[1] for inner, _ in _all_in(formula) if inner[0] == "row"])


def _all_in(formula):
    """Return all formulas in a formula, itself included, each with the number of those that it stands in."""
    found, waiting = [], [(formula, 0)]
    while waiting:
        inner, around = waiting.pop()
        found.append((inner, around))
        waiting.extend([(part, around + 1) for part in _parts(inner)])
    return found


def _parts(formula):
    """Return the tuple of the parts of a formula."""
    if formula[0] == "not":
        return (formula[1],)
    if formula[0] in _JOINING:
        return formula[1]
    return ()


def format_formula(formula):
    """Return the text of a formula."""
    word = formula[0]
    if word == "row":
        return f"[{format_row(formula[1])}]"
    if word == "not":
        return "not " + _part_text(formula[1], word)
    if word in _JOINING:
        between = f" {word} "
        return between.join([_part_text(part, word) for part in formula[1]])
    return word


def _part_text(part, word):
    """Return the text of a part of a formula with a word, in brackets if it needs them."""
    strength = _STRENGTHS.get(part[0], _STRONGEST)
    if strength < _STRENGTHS[word] or (part[0] == word and word in _JOINING):
        return f"({format_formula(part)})"
    return format_formula(part)


def read_formula(text):
    """Return the formula of a text."""
    formula = _formula_of(_tokens(text))
    _check_limits(formula, len(text))
    return formula


def _tokens(text):
    """Return the tokens of a text without faults; true, false and comparisons as formulas, the others as strings."""
    tokens, brackets, is_behind, at = [], 0, False, 0
    while at < len(text):
        end = _token_end(text, at)
        token = text[at:end]
        if token == " ":
            at = end
            continue
        if not _may_stand(token, is_behind, brackets):
            raise FormulaError(at, "not expected")
        if token == "[":
            end = text.find("]", at) + 1
            token = _comparison(text, at, end)
        elif token in ("true", "false"):
            token = (token,)
        elif token == "(":
            brackets += 1
        elif token == ")":
            brackets -= 1
        tokens.append(token)
        is_behind = token not in ("(", "not", "and", "or")
        at = end
    if brackets > 0 or not is_behind:
        raise FormulaError(len(text), "not finished")
    return tokens


def _token_end(text, at):
    """Return the place behind the word or the one character that begins at a place."""
    end = at
    while end < len(text) and text[end] in _LETTERS:
        end += 1
    return max(end, at + 1)


def _may_stand(token, is_behind, brackets):
    """Tell whether a formula can go on with a token, behind a formula or not, within so many opened brackets."""
    if not is_behind:
        return token in _BEGINNINGS
    return token in _JOINING or (token == ")" and brackets > 0)


def _comparison(text, at, end):
    """Return the formula of the comparison between two places of a text, where end is 0 if it has no `]`."""
    if end == 0:
        raise FormulaError(len(text), "not finished")
    try:
        return ("row", read_row(text[at + 1:end - 1]))
    except TextError as fault:
        raise FormulaError(at + 1 + fault.place, fault.what) from fault


def _formula_of(tokens):
    """Return the formula of tokens without faults."""
    # Of the formula so far: the parts of its `or`, those of the last `and` in it, and how many
    # words `not` come last; and the same for each bracket that is not closed yet, ahead of it.
    ors, ands, nots, around = [], [], 0, []
    for token in tokens:
        if token == "not":
            nots += 1
        elif token == "(":
            around.append((ors, ands, nots))
            ors, ands, nots = [], [], 0
        elif token == "or":
            ors.append(_joined("and", ands))
            ands = []
        elif token != "and":
            part = token
            if token == ")":
                part = _joined("or", ors + [_joined("and", ands)])
                ors, ands, nots = around.pop()
            ands.append(_with_nots(part, nots))
            nots = 0
    return _joined("or", ors + [_joined("and", ands)])


def _with_nots(formula, many):
    """Return a formula behind so many words `not`."""
    for _ in range(many):
        formula = ("not", formula)
    return formula


def _check_limits(formula, length):
    """Raise FormulaError for the first limit that a formula, read from a text of a length, breaks."""
    found = _all_in(formula)
    if max([around for _, around in found]) >= DEPTH:
        raise FormulaError(length, "too deep")
    if len(found) > FORMULAS:
        raise FormulaError(length, "too many formulas")
    if max([len(_parts(inner)) for inner, _ in found]) > PARTS:
        raise FormulaError(length, "too many parts")
    if len(unknowns_of(formula)) > UNKNOWNS:
        raise FormulaError(length, "too many unknowns")
