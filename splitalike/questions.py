"""What is asked of two readers: which rows are looked for, and which are gone on with."""

from splitalike.machines import REFUSE

PART = "part"
DIFFER = "differ"
MEET = "meet"
MEET_BEYOND = "meet beyond"


class Question:
    """The answers have labels: the word that is asked, or for lines that meet their two names."""

    def __init__(self, asked, wanted=None):
        self.asked = asked
        # The two names of lines that are to meet, or None for all.
        self.wanted = wanted

    def label_of_events(self, events):
        """The label of rows that end where the readers have these events, or None."""
        if events[0] == events[1]:
            return None
        if self.asked == DIFFER or (self.asked == PART and REFUSE not in events):
            return self.asked
        return None

    def label_of_lines(self, names):
        """The label of rows whose last cell the readers go over by these lines, or None."""
        if self.asked in (PART, DIFFER) or self.wanted not in (None, names):
            return None
        return names

    def goes_on(self, events):
        """Whether rows go on behind a place where the readers have these events."""
        return REFUSE not in events and (events[0] == events[1] or self.asked == MEET_BEYOND)
