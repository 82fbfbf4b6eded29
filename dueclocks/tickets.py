"""Tickets: questions that need work, that are paused, and that change their calendar."""

from dueclocks.checks import check_amount
from dueclocks.errors import InvalidMoment, NothingToUndo, TooMany, WrongState
from dueclocks.work import due, latest, work


def check_not_done(left, moment):
    """Raise WrongState if nothing is left at a moment."""
    if left == 0:
        raise WrongState(moment)


class Stage:
    """What holds for a ticket from the moment of a call on."""

    def __init__(self, calendar, amount, begin, still):
        self.calendar = calendar
        self.amount = amount
        self.begin = begin
        self.still = still


class Ticket:
    """A question that is asked at a moment, and needs an amount of work by a calendar."""

    def __init__(self, calendar, amount, moment):
        check_amount(amount)
        self._asked = (calendar, amount, moment)
        self._story = []
        # One stage from the moment of asking on, and one from each call of the story on.
        self._stages = [Stage(calendar, amount, moment, False)]
        self._most = None

    @property
    def moment(self):
        """The moment of the last call that is not taken back, at first that of asking."""
        return self._stages[-1].begin

    @property
    def left(self):
        """The amount that is still to be done behind that call."""
        return self._stages[-1].amount

    @property
    def is_paused(self):
        """Whether the ticket is paused."""
        return self._stages[-1].still

    def _go_on(self, call, calendar, amount, still):
        """Note a call, whose last item is its moment, and what holds from it on."""
        self._story.append(call)
        self._stages.append(Stage(calendar, amount, call[-1], still))

    def pause(self, moment):
        """Do no work from a moment on."""
        left = self.left_at(moment)
        check_not_done(left, moment)
        if self.is_paused:
            raise WrongState(moment)
        self._go_on(("pause", moment), self._stages[-1].calendar, left, True)

    def resume(self, moment):
        """Do work again from a moment on."""
        left = self.left_at(moment)
        if not self.is_paused:
            raise WrongState(moment)
        self._go_on(("resume", moment), self._stages[-1].calendar, left, False)

    def switch(self, calendar, moment):
        """Go on with another calendar from a moment on."""
        left = self.left_at(moment)
        check_not_done(left, moment)
        self._go_on(("switch", calendar, moment), calendar, left, self.is_paused)

    def enlarge(self, amount, moment):
        """Add an amount to what is left at a moment."""
        left = self.left_at(moment)
        check_amount(amount)
        check_not_done(left, moment)
        call = ("enlarge", amount, moment)
        self._go_on(call, self._stages[-1].calendar, left + amount, self.is_paused)

    def undo(self):
        """Take back the last call that is not taken back."""
        if len(self._story) == 0:
            raise NothingToUndo(0)
        self._story.pop()
        self._stages.pop()

    def left_at(self, moment):
        """Return what is left at a moment if nothing else is called."""
        stage = self._stages[-1]
        if moment < stage.begin:
            raise InvalidMoment(moment)
        if stage.still:
            return stage.amount
        return max(0, stage.amount - work(stage.calendar, stage.begin, moment))

    def done_at(self):
        """Return the least moment at which nothing is left, None if the ticket is paused."""
        stage = self._stages[-1]
        if stage.still:
            return None
        return due(stage.calendar, stage.begin, stage.amount)

    def can_wait(self, limit):
        """Return the greatest moment from which all is done at a limit, None if there is none."""
        stage = self._stages[-1]
        begin = latest(stage.calendar, limit, stage.amount)
        return None if begin < stage.begin else begin

    def story(self):
        """Return the list of the calls that are not taken back."""
        return list(self._story)

    def __len__(self):
        return len(self._story)

    def __eq__(self, other):
        return (
            isinstance(other, Ticket)
            and self._asked == other._asked
            and self._story == other._story
            and self._most == other._most
        )


class ShortTicket(Ticket):
    """A ticket whose story has at most so many calls."""

    def __init__(self, calendar, amount, moment, most):
        Ticket.__init__(self, calendar, amount, moment)
        check_amount(most)
        self._most = most

    def pause(self, moment):
        """Do no work from a moment on."""
        super().pause(moment)
        self._keep_short()

    def resume(self, moment):
        """Do work again from a moment on."""
        super().resume(moment)
        self._keep_short()

    def switch(self, calendar, moment):
        """Go on with another calendar from a moment on."""
        super().switch(calendar, moment)
        self._keep_short()

    def enlarge(self, amount, moment):
        """Add an amount to what is left at a moment."""
        super().enlarge(amount, moment)
        self._keep_short()

    def _keep_short(self):
        """Take back the last call, and raise TooMany, if the story has become too long."""
        # Only here, as TooMany stands behind all errors that the call raises by itself.
        number = len(self._story)
        if number > self._most:
            self.undo()
            raise TooMany(number)
