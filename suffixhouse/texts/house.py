"""Houses as lists of pairs, and how they are written (points 101, 105 and 106)."""

from suffixhouse.errors import BadLine, BadText, NoText, OutOfRange, TakenNumber, TooMany, WrongOrder

_MOST_TEXTS = 8
_MOST_LETTERS = 40
_GREATEST_NUMBER = 99
_PERCENT_SIGN = 37


def is_house(house):
    """Return True if a list of pairs is a house, otherwise False."""
    if len(house) > _MOST_TEXTS:
        return False
    before = -1
    for number, text in house:
        if not before < number <= _GREATEST_NUMBER:
            return False
        if not _is_text(text):
            return False
        before = number
    return True


def write_house(house):
    """Return a house as a text with one line for each pair."""
    return "".join([f"{number}:{text}\n" for number, text in house])


def read_house(text):
    """Return the house that a text gives line by line."""
    lines = text.split("\n")
    # What is left behind the last newline is no line, unless it has letters.
    rest = lines.pop()
    house = []
    before = -1
    for at, line in enumerate(lines):
        number, letters = _read_line(line, at)
        if number <= before:
            raise WrongOrder(at)
        if at >= _MOST_TEXTS:
            raise TooMany(at)
        house.append((number, letters))
        before = number
    if rest != "":
        raise BadLine(len(lines))
    return house


def text_of(house, number):
    """Return the text with a number."""
    for other, text in house:
        if other == number:
            return text
    raise NoText(number)


def with_text(house, number, text):
    """Return a house with a further text."""
    if not 0 <= number <= _GREATEST_NUMBER:
        raise OutOfRange(number)
    if _has_number(house, number):
        raise TakenNumber(number)
    if not _is_text(text):
        raise BadText(number)
    if len(house) >= _MOST_TEXTS:
        raise TooMany(number)
    return sorted([*house, (number, text)])


def without_text(house, number):
    """Return a house without the text with a number."""
    if not _has_number(house, number):
        raise NoText(number)
    return [(other, text) for other, text in house if other != number]


def _is_text(text):
    """Return True if a text is not too long and consists of letters."""
    return len(text) <= _MOST_LETTERS and all([_is_letter(character) for character in text])


def _is_letter(character):
    """Return True if a character is a letter."""
    return " " <= character <= "~" and ord(character) != _PERCENT_SIGN


def _has_number(house, number):
    """Return True if a house has a text with a number."""
    return number in [other for other, text in house]


def _read_line(line, at):
    """Return the pair that a line without its newline gives."""
    numeral, colon, letters = line.partition(":")
    number = _number_of(numeral)
    if colon == "" or number is None:
        raise BadLine(at)
    if len(letters) > _MOST_LETTERS:
        raise BadText(at)
    return number, letters


def _number_of(numeral):
    """Return the number that is written without leading zeros, or None."""
    if len(numeral) > 2 or not numeral.isascii() or not numeral.isdigit():
        return None
    number = int(numeral)
    if str(number) != numeral:
        return None
    return number
