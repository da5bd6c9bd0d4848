"""One house of HOUSES."""


class House:
    """Whether a house is up, its TERM, VOTE, LOG and DONE, whether it LEADS, and what others HOLD while it does."""

    def __init__(self):
        self.up = True
        self.term = 0
        self.vote = None
        self.pairs = ()
        self.known = 0
        self.leads = False
        self.holds = {}

    def come_into(self, term):
        """Comes INTO a greater TERM."""
        self.term = term
        self.vote = None
        self.lead_no_more()

    def come_up_to(self, term):
        """Comes INTO a TERM, where this is greater than its own."""
        if self.term < term:
            self.come_into(term)

    def lead(self, others):
        """LEADS from now on; the others, numbers of houses, HOLD nothing yet."""
        self.leads = True
        self.holds = {other: 0 for other in others}

    def lead_no_more(self):
        """LEADS no more, if it did."""
        self.leads = False
        self.holds = {}

    def know(self, number):
        """Its DONE is this number, where it is greater."""
        self.known = max(self.known, number)

    def rank(self):
        """What a LOG is compared by: the TERM of its last pair, 0 of none, then its length."""
        return (self.pairs[-1][0] if self.pairs else 0, len(self.pairs))

    def facts(self):
        """All that is so of it: a tuple."""
        holds = tuple(sorted(self.holds.items()))
        return (self.up, self.term, self.vote, self.pairs, self.known, self.leads, holds)

    def become(self, facts):
        """Of it is so from now on what was so as its facts were told."""
        self.up, self.term, self.vote, self.pairs, self.known, self.leads, holds = facts
        self.holds = dict(holds)


def house_text(house):
    """A house as a text: TERM.LENGTH.DONE, with a sign behind where it LEADS or isn't up."""
    sign = "+" if house.leads else "" if house.up else "-"
    return f"{house.term}.{len(house.pairs)}.{house.known}{sign}"
