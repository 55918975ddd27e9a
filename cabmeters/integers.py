"""Integers, as values and in texts: what several files ask of them."""


def is_whole(value):
    """Tell whether any value is an integer."""
    # To Python True and False are integers; to the package they are not.
    return isinstance(value, int) and not isinstance(value, bool)


def is_count(value):
    """Tell whether any value is an integer of at least 0."""
    return is_whole(value) and value >= 0


def is_between(value, least, most):
    """Tell whether any value is an integer from `least` to `most`."""
    return is_whole(value) and least <= value <= most


def number_in(word, most):
    """Return the integer from 0 to `most` that is written in a word without needless zeros, or None."""
    # The length is asked first, as Python reads no number of very many digits.
    if len(word) > len(str(most)) or not (word.isascii() and word.isdigit()):
        return None
    number = int(word)
    if number > most or str(number) != word:
        return None
    return number
