"""A place in a text that is read sign by sign."""

from pathfolios.errors import NoText


class Cursor:
    """How far a text has been read as what a word names; NoText where it goes on otherwise than it has to."""

    def __init__(self, text, word):
        self.text = text
        self.word = word
        self.at = 0

    def claim(self, so):
        """Refuses the text where this isn't so."""
        if not so:
            raise NoText(self.text, self.word)

    def sign(self):
        """The sign that comes next, a void text at the end."""
        return self.text[self.at:self.at + 1]

    def sees(self, sign):
        """Whether this sign comes next."""
        return self.sign() == sign

    def take(self, sign):
        """Goes on over this sign."""
        self.claim(self.sees(sign))
        self.at += 1

    def take_if(self, sign):
        """Goes on over this sign, where it comes next: tells whether it did."""
        if not self.sees(sign):
            return False
        self.at += 1
        return True

    def take_all(self, signs):
        """Goes on over all that come next of these signs, and tells them."""
        start = self.at
        while self.at < len(self.text) and self.sign() in signs:
            self.at += 1
        return self.text[start:self.at]

    def is_through(self):
        """Whether the whole text has been read."""
        return self.at == len(self.text)
