"""The form of labels."""

_CHARACTERS = "abcdefghijklmnopqrstuvwxyz0123456789"
_MOST_CHARACTERS = 8


def is_label(text):
    """Whether the text has 1 to 8 characters, all from a to z and 0 to 9."""
    if not 1 <= len(text) <= _MOST_CHARACTERS:
        return False
    return all([character in _CHARACTERS for character in text])
