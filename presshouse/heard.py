"""Bits that were heard, read as numbers and as letters by their words."""

from presshouse.errors import BadStream
from presshouse.words import words


class Wanting(Exception):
    """The bits that were heard end within what they tell."""


class Tree:
    """Words to be read: the letter of each, and all that some begin with."""

    def __init__(self, lengths):
        found = words(lengths)
        self.by_word = {found[letter]: letter for letter in found}
        self.begun = {word[:many]: True for word in self.by_word for many in range(1, len(word))}


class Heard:
    """Bits that were heard, and how many of them were read."""

    def __init__(self):
        # Bits that were read are left out at times; so many they were.
        self._left_out = 0
        self._text = ""
        self._at = 0

    def hear_bytes(self, piece):
        """Put the bits of a piece behind the others."""
        self._left_out += self._at
        self._text = self._text[self._at:] + "".join([f"{byte:08b}" for byte in piece])
        self._at = 0

    def many_bits(self):
        """How many bits were heard."""
        return self._left_out + len(self._text)

    def many_read(self):
        """How many bits were read."""
        return self._left_out + self._at

    def go_back(self, many):
        """Have only so many bits read."""
        self._at = many - self._left_out

    def slip(self):
        """Slip at the bit that was read last."""
        raise BadStream(self.many_read() - 1)

    def number(self, many):
        """The number that the next so many bits tell."""
        text = self._text[self._at:self._at + many]
        if len(text) < many:
            raise Wanting("no more bits")
        self._at += many
        return int(text, 2) if many > 0 else 0

    def letter(self, tree):
        """The letter whose word comes next."""
        for end in range(self._at + 1, len(self._text) + 1):
            word = self._text[self._at:end]
            if word in tree.by_word:
                self._at = end
                return tree.by_word[word]
            if word not in tree.begun:
                raise BadStream(self._left_out + end - 1)
        raise Wanting("no more bits")
