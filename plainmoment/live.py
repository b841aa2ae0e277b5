"""Live sessions: hands with lines of their own, deeds that can be taken back, and trials."""

from plainmoment.checks import is_within
from plainmoment.errors import NoCount, NoHand, NothingBack
from plainmoment.hands import home_stand, place_of, seen_from, stand_at, stand_behind
from plainmoment.roads import need_setting

MOST_HANDS = 4


def shortest_to(setting, place):
    """The list of the shortest commands that lead from home to a place."""
    road, moment, made = stand_at(setting, place)
    commands = []
    now = 0
    for index, leg in enumerate(road.legs()):
        if leg[1] != now:
            commands.append(("to", leg[1]))
        commands.append(leg[:1] + leg[2:])
        now = leg[1] if leg[0] == "change" else road.stage_behind(index + 1).low
    if moment != now:
        commands.append(("to", moment))
    if made is not None:
        commands.append(("stop",) + made)
    return commands


def _with_item(items, at, item):
    return items[:at] + (item,) + items[at + 1:]


class Trial:
    """A trial of a session; behind it the session is as ahead of it, unless it is kept."""

    def __init__(self, live):
        self._live = live
        self._wanted = None
        self._lines = ()
        self._stands = ()
        self._past = []
        self._future = []

    def keep(self):
        """Lets the trial be one deed, if no error leaves it."""
        self._wanted = True

    def __enter__(self):
        live = self._live
        self._wanted = None
        self._lines = live._lines
        self._stands = live._stands
        self._past = live._past
        self._future = live._future
        live._past = []
        live._future = []
        return live

    def __exit__(self, kind, value, trace):
        if kind is None and self._wanted is not None:
            self._live._past = self._past + [(self._lines, self._stands)]
            self._live._future = []
        else:
            self._live._lines = self._lines
            self._live._stands = self._stands
            self._live._past = self._past
            self._live._future = self._future


class Live:
    """A session of one to four hands in one setting."""

    def __init__(self, setting, *, many=1):
        need_setting(setting)
        if not is_within(many, 1, MOST_HANDS):
            raise NoCount(many)
        home = home_stand(setting)
        self._setting = setting
        self._lines = tuple([((), ()) for _ in range(many)])
        # Of each hand the stands behind none, one, .. of the commands that are done.
        self._stands = tuple([(home,) for _ in range(many)])
        # What the lines and stands were ahead of each deed, and behind each one that was taken back.
        self._past = []
        self._future = []

    def __eq__(self, other):
        return isinstance(other, Live) and self._setting == other._setting and self._lines == other._lines

    def __len__(self):
        return len(self._past)

    @property
    def many(self):
        """How many hands there are."""
        return len(self._lines)

    def setting(self):
        """The setting in which the hands are."""
        return self._setting

    def _need_hand(self, hand):
        if not is_within(hand, 0, len(self._lines) - 1):
            raise NoHand(hand)

    def _note(self, hand, line, stands):
        """Notes a deed that leads a hand to a line and to stands."""
        self._past.append((self._lines, self._stands))
        self._future = []
        self._lines = _with_item(self._lines, hand, line)
        self._stands = _with_item(self._stands, hand, stands)

    def do(self, hand, command):
        """A hand does a command."""
        self._need_hand(hand)
        stands = self._stands[hand]
        stand = stand_behind(stands[-1], command)
        done = self._lines[hand][0]
        self._note(hand, (done + (command,), ()), stands + (stand,))

    def undo(self, hand):
        """A hand goes back to the place ahead of its last command that is done."""
        self._need_hand(hand)
        done, undone = self._lines[hand]
        if len(done) == 0:
            raise NothingBack("undo")
        self._note(hand, (done[:-1], done[-1:] + undone), self._stands[hand][:-1])

    def redo(self, hand):
        """A hand does the first one of its undone commands again."""
        self._need_hand(hand)
        done, undone = self._lines[hand]
        if len(undone) == 0:
            raise NothingBack("redo")
        stands = self._stands[hand]
        stand = stand_behind(stands[-1], undone[0])
        self._note(hand, (done + undone[:1], undone[1:]), stands + (stand,))

    def stand(self, hand):
        """The road of a hand, its moment there, and its made moment or None."""
        self._need_hand(hand)
        return self._stands[hand][-1]

    def place(self, hand):
        """The place of a hand."""
        return place_of(self.stand(hand))

    def sees(self, hand):
        """What is seen at the place of a hand."""
        return seen_from(self.stand(hand))

    def line(self, hand):
        """The pair of the commands that a hand has done, and of those that are undone."""
        self._need_hand(hand)
        return self._lines[hand]

    def hands_with(self, hand):
        """The list of the numbers of the hands at the place of a hand, itself too, ascending."""
        place = self.place(hand)
        return [other for other in range(len(self._lines)) if self.place(other) == place]

    def back(self):
        """Takes the last deed back."""
        if len(self._past) == 0:
            raise NothingBack(0)
        self._future.append((self._lines, self._stands))
        self._lines, self._stands = self._past.pop()

    def again(self):
        """Does the last deed again that was taken back."""
        if len(self._future) == 0:
            raise NothingBack(0)
        self._past.append((self._lines, self._stands))
        self._lines, self._stands = self._future.pop()

    def trial(self):
        """A trial of this session, to be used once, with `with`."""
        return Trial(self)

    def trying(self, guest, *, kept=False):
        """What a guest returns that is called with the session within a trial."""
        trial = self.trial()
        with trial as session:
            told = guest(session)
            if kept is True:
                trial.keep()
        return told

    def twin(self):
        """An equal session that goes on by itself, with the same deeds to be taken back or done again."""
        twin = Live(self._setting, many=len(self._lines))
        twin._lines = self._lines
        twin._stands = self._stands
        twin._past = list(self._past)
        twin._future = list(self._future)
        return twin
