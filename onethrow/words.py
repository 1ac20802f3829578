"""What names and written integers look like."""

from onethrow.errors import BadName, DuplicateName, UnknownName

LETTERS = "abcdefghijklmnopqrstuvwxyz"
DIGITS = "0123456789"
MOST_SIGNS = 8
MOST_DIGITS = 30


def is_name(text):
    """Tell if a string is a name."""
    if not 1 <= len(text) <= MOST_SIGNS:
        return False
    return text[0] in LETTERS and all([sign in LETTERS or sign in DIGITS for sign in text])


def check_names(names):
    """Raise the error of the first string that is no name or comes again."""
    for at, name in enumerate(names):
        if not is_name(name):
            raise BadName(name)
        if name in names[:at]:
            raise DuplicateName(name)


def check_among(known, names):
    """Raise the error of the first one of some names that is not among the known ones."""
    for name in names:
        if name not in known:
            raise UnknownName(name)


def is_positive(text):
    """Tell if a text is a positive integer, without leading zeros and not too long."""
    if not 1 <= len(text) <= MOST_DIGITS:
        return False
    return text[0] != "0" and all([sign in DIGITS for sign in text])


def wrong_word(words):
    """Return the index of the first word that breaks a row of names and weights, or None if none does."""
    for at, word in enumerate(words):
        if word == "" or (at % 2 == 1 and not is_positive(word)):
            return at
    # Behind the last name a weight is lacking.
    if len(words) % 2 == 1:
        return len(words)
    return None


def is_signed(text):
    """Tell if a text is an integer, with a minus sign only ahead of a positive one."""
    if text.startswith("-"):
        return is_positive(text[1:])
    return text == "0" or is_positive(text)


def decimal(n):
    """Return the decimal digits of an integer of any size."""
    # Python refuses to write integers of thousands of digits, so blocks of digits are written.
    blocks = []
    rest = abs(n)
    while rest >= 10 ** 64:
        rest, block = divmod(rest, 10 ** 64)
        blocks.append(str(block).zfill(64))
    blocks.append(str(rest))
    text = "".join(blocks[::-1])
    return f"-{text}" if n < 0 else text
