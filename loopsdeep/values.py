"""What a value of any kind is."""


def is_number(thing):
    """Whether any value is an integer; True and False are none."""
    return isinstance(thing, int) and not isinstance(thing, bool)


def is_letter(thing):
    """Whether any value is a letter from a to z."""
    return isinstance(thing, str) and len(thing) == 1 and "a" <= thing <= "z"
