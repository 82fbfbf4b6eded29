"""Tickets that go moment by moment, to compare the program with."""

from dueclocks.errors import InvalidAmount, InvalidMoment, NothingToUndo, TooMany, WrongState

PLACES = {"pause": 0, "resume": 0, "switch": 1, "enlarge": 1}


def plain_left(speed, left, begin, end):
    """Return what is left of an amount at an end, at least 0, working from a begin on."""
    for moment in range(begin, end):
        left = max(0, left - speed(moment))
    return left


class PlainTicket:
    """A ticket that works all its story out anew for each question, moment by moment.

    Instead of calendars it is passed tuples (calendar, speed function).
    """

    def __init__(self, desk, amount, moment, most=None):
        self.asked = (desk, amount, moment)
        self.most = most
        self.calls = []

    def state(self):
        """Return the tuple (speed, left, moment, paused) behind the last call."""
        (_, speed), left, moment = self.asked
        paused = False
        for name, *told in self.calls:
            if not paused:
                left = plain_left(speed, left, moment, told[-1])
            moment = told[-1]
            if name == "pause":
                paused = True
            elif name == "resume":
                paused = False
            elif name == "switch":
                _, speed = told[0]
            else:
                left += told[0]
        return speed, left, moment, paused

    def left_at(self, moment):
        speed, left, begin, paused = self.state()
        return left if paused else plain_left(speed, left, begin, moment)

    def error(self, name, *told):
        """Return the tuple (class, value) of the first error that a call raises, None if none."""
        _, _, begin, paused = self.state()
        moment = told[-1]
        if moment < begin:
            return InvalidMoment, moment
        if name == "enlarge" and told[0] < 0:
            return InvalidAmount, told[0]
        if name == "resume" and not paused or name == "pause" and paused:
            return WrongState, moment
        if name != "resume" and self.left_at(moment) == 0:
            return WrongState, moment
        if self.most is not None and len(self.calls) + 1 > self.most:
            return TooMany, len(self.calls) + 1
        return None

    def call(self, name, *told):
        """Note a call if it raises no error; return the error that it raises, None if none."""
        error = self.error(name, *told)
        if error is None:
            self.calls.append((name, *told))
        return error

    def undo(self):
        if not self.calls:
            return NothingToUndo, 0
        self.calls.pop()
        return None

    def done_at(self):
        speed, left, moment, paused = self.state()
        if paused:
            return None
        while left > 0:
            left = max(0, left - speed(moment))
            moment += 1
        return moment

    def can_wait(self, limit):
        speed, left, begin, _ = self.state()
        for moment in range(limit, begin - 1, -1):
            if plain_left(speed, left, moment, limit) == 0:
                return moment
        return None

    def story(self):
        return [
            (name, told[0][0], told[1]) if name == "switch" else (name, *told)
            for name, *told in self.calls
        ]
