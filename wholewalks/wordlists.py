"""Words that have so many letters in all."""

from wholewalks.checks import LETTERS


def words_of_letters(rows, letters, many):
    """All words of so many rows that have so many letters in all, ascending."""
    strings = [[""]]
    for _ in range(many):
        strings.append([text + letter for text in strings[-1] for letter in LETTERS[:letters]])
    found = [((), many)]
    for _ in range(rows - 1):
        found = [(words, left, size) for words, left in found for size in range(left + 1)]
        found = [(words + (text,), left - size) for words, left, size in found for text in strings[size]]
    return sorted([words + (text,) for words, left in found for text in strings[left]])
