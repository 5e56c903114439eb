"""Numbers as words of a text."""

MOST_FIGURES = 31


def numbers_of(words):
    """The tuple of the numbers that the words write, or None if one of them writes none."""
    if not all([_is_decimal(word) for word in words]):
        return None
    return tuple([int(word) for word in words])


def _is_decimal(word):
    """Whether the word is an integer from 0 on, without a 0 ahead, of at most 31 figures."""
    # There are figures beyond ASCII, and words that Python takes no integer from.
    if len(word) > MOST_FIGURES or not word.isascii() or not word.isdigit():
        return False
    return word == "0" or word[0] != "0"
