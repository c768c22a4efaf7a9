"""Words: numbers as they stand in texts and lines."""

MOST_DIGITS = 30
DIGITS = "0123456789"


def read_number(word):
    """The number that a word is, or None; it has at most 30 digits and no leading zeros."""
    if not 1 <= len(word) <= MOST_DIGITS:
        return None
    if not all([sign in DIGITS for sign in word]):
        return None
    if word[0] == "0" and len(word) > 1:
        return None
    return int(word)


def read_numbers(word, many):
    """The list of the numbers that a word joins by signs -, if they are this many, or None."""
    numbers = [read_number(part) for part in word.split("-")]
    if len(numbers) != many or None in numbers:
        return None
    return numbers


def read_count(word):
    """The number before the sign : that ends a word, or None."""
    if not word.endswith(":"):
        return None
    return read_number(word[:-1])
