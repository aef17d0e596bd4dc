"""Texts of forms: read and written."""

from cellplaces.checks import is_letter
from cellplaces.errors import InvalidForm, InvalidText
from cellplaces.forms import Form, letter, number

# The kinds of words that may come next, by what is expected.
ALLOWED = {
    "expression": ("number", "letter", "(", "-"),
    "factor": ("number", "letter", "("),
    "divisor": ("number",),
    "rest": ("+", "-", "*", "/", ")"),
}

# What is expected behind a word, by its kind.
BEHIND = {
    "number": "rest",
    "letter": "rest",
    ")": "rest",
    "(": "expression",
    "+": "factor",
    "-": "factor",
    "*": "factor",
    "/": "divisor",
}


def read(text):
    """The form that a text writes."""
    if not isinstance(text, str):
        raise InvalidText(text)
    # All words are checked first: no wrong text is worked out, however much it would be.
    words = split_words(text)
    if not is_expression(words):
        raise InvalidText(text)
    return work_out(words)


def write(form):
    """A text that writes the form."""
    if not isinstance(form, Form):
        raise InvalidForm(form)
    pieces = []
    for top, bottom, names in form.terms():
        pieces.append("-" if top < 0 else "+" if pieces else "")
        pieces.append(term_text(abs(top), bottom, names))
    return "".join(pieces) if pieces else "0"


def term_text(top, bottom, names):
    """The text of a term whose numerator is at least 1."""
    factors = names if top == 1 and names else [digits_of(top), *names]
    divisor = "" if bottom == 1 else "/" + digits_of(bottom)
    return "*".join(factors) + divisor


def split_words(text):
    """The list of the numbers, letters and signs of a text, without the blanks."""
    words = []
    start = 0
    while start < len(text):
        end = word_end(text, start)
        if text[start] != " ":
            words.append(text[start:end])
        start = end
    return words


def word_end(text, start):
    """Where the word ends that begins at this position."""
    end = start + 1
    if is_digit(text[start]):
        while end < len(text) and is_digit(text[end]):
            end += 1
    elif is_small(text[start]):
        while end < len(text) and is_small(text[end]):
            end += 1
    return end


def is_digit(sign):
    """Tell whether a sign is a digit."""
    return "0" <= sign <= "9"


def is_small(sign):
    """Tell whether a sign is one of those that letters are made of."""
    return "a" <= sign <= "z"


def kind_of(word):
    """The kind of a word; a sign is its own kind."""
    if is_digit(word[0]):
        return "number"
    return "letter" if is_letter(word) else word


def is_expression(words):
    """Tell whether these words are an expression."""
    expected = "expression"
    depth = 0
    for word in words:
        kind = kind_of(word)
        if kind not in ALLOWED[expected]:
            return False
        if expected == "divisor" and word.strip("0") == "":
            return False
        if kind == "(":
            depth += 1
        if kind == ")":
            depth -= 1
        if depth < 0:
            return False
        expected = BEHIND[kind]
    return expected == "rest" and depth == 0


def work_out(words):
    """The form that the words of an expression write."""
    # A list of what waits, not recursion: parentheses may be nested deeper than Python's calls.
    waiting = []
    total, term = number(0), number(1)
    before = "("
    for word in words:
        if word == "(":
            waiting.append((total, term))
            total, term = number(0), number(1)
        elif word == ")":
            inner = total + term
            total, term = waiting.pop()
            term = term * inner
        elif word in ("+", "-"):
            # No term ends at a sign that stands ahead of the first one.
            if before != "(":
                total = total + term
            term = number(1 if word == "+" else -1)
        elif before == "/":
            term = term.over(number_of(word))
        elif word not in ("*", "/"):
            term = term * factor_of(word)
        before = word
    return total + term


def factor_of(word):
    """The form that a number or a letter writes."""
    return number(number_of(word)) if is_digit(word[0]) else letter(word)


def number_of(digits):
    """The number that these digits write."""
    # In pieces of 64 digits: Python's own conversion refuses numbers that are very long.
    first = len(digits) % 64
    value = int("0" + digits[:first])
    for start in range(first, len(digits), 64):
        value = value * 10 ** 64 + int(digits[start:start + 64])
    return value


def digits_of(value):
    """The digits of a count, in pieces as in `number_of`."""
    pieces = []
    while value >= 10 ** 64:
        value, piece = divmod(value, 10 ** 64)
        pieces.append(str(piece).zfill(64))
    pieces.append(str(value))
    return "".join(pieces[::-1])
