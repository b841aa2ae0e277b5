"""Places of hands, and the commands that lead from one to another one."""

from plainmoment.checks import is_name, is_tuple_of, is_value, is_within
from plainmoment.errors import (
    MomentError, NoCell, NoCommand, NoCondition, NoEdit, NoLanding, NoMoment, NoRoad, NoStop, TooMany)
from plainmoment.maderuns import plain_moment, told_at
from plainmoment.roads import MOST_LEGS, Road, need_setting
from plainmoment.seeking import cells_in, holds_in, is_condition_form, is_condition_of
from plainmoment.states import MOST_STEPS, frame_of

# A stand is what a place is within: the triple (Road, moment, made moment or None).


def home_place():
    """The place at which all hands are at first."""
    return ((), 0, None)


def home_stand(setting):
    """The stand at home."""
    return (Road(setting), 0, None)


def place_of(stand):
    """The place of a stand."""
    road, moment, made = stand
    return (road.legs(), moment, made)


def _is_made_moment(road, moment, value):
    """Whether any value is a made moment with a stop, of the road without legs, of this plain moment."""
    if len(road.legs()) > 0 or not is_tuple_of(value, 2) or value[1] is None:
        return False
    try:
        return plain_moment(road.setting().code(), road.run(), value) == moment
    except NoMoment:
        return False


def _stand_at(setting, value):
    """The stand of any value, None of one that is no place."""
    if not is_tuple_of(value, 3) or not isinstance(value[0], tuple):
        return None
    legs, moment, made = value
    try:
        road = Road(setting, legs)
    except (NoRoad, TooMany):
        return None
    if not road.shows(moment) or (made is not None and not _is_made_moment(road, moment, made)):
        return None
    return (road, moment, made)


def stand_at(setting, place):
    """The stand of a place; refuses any value that is no setting, and then any that is no place of it."""
    need_setting(setting)
    stand = _stand_at(setting, place)
    if stand is None:
        raise NoRoad(place)
    return stand


def is_place(setting, value):
    """Whether any value is a place of a setting."""
    need_setting(setting)
    return _stand_at(setting, value) is not None


def _is_count(value):
    return is_within(value, 0, MOST_STEPS)


def is_command_form(value):
    """Whether any value is a command of some setting, perhaps with an edit that no setting has."""
    if not isinstance(value, tuple) or len(value) == 0 or not isinstance(value[0], str):
        return False
    word, parts = value[0], value[1:]
    if word in ("on", "back"):
        return len(parts) == 1 and is_within(parts[0], 1, MOST_STEPS)
    if word in ("to", "land"):
        return len(parts) == 1 and _is_count(parts[0])
    if word in ("next", "last"):
        return len(parts) == 1 and is_condition_form(parts[0])
    if word == "change":
        return len(parts) == 3 and _is_count(parts[0]) and is_name(parts[1]) and is_value(parts[2])
    if word == "stop":
        return len(parts) == 2 and _is_count(parts[0]) and _is_count(parts[1])
    return word == "home" and len(parts) == 0


def _is_condition_known(setting, condition):
    """Whether a condition is one of the program of a setting, or of either one of an edit."""
    programs = [setting.program()]
    for edit in setting.edits():
        programs.extend([edit.old(), edit.new()])
    return any([is_condition_of(program, condition) for program in programs])


def is_command_of(setting, value):
    """Whether any value is a command of a setting; nothing is asked of the setting."""
    if not is_command_form(value):
        return False
    if value[0] == "land":
        return value[1] < len(setting.edits())
    return value[0] not in ("next", "last") or _is_condition_known(setting, value[1])


def is_command(setting, value):
    """Whether any value is a command of a setting."""
    need_setting(setting)
    return is_command_of(setting, value)


def _shown_as_told(road, made, pairs):
    """The pairs of the variables of the top frame and what is told of them as shown at a made moment."""
    shown = []
    for variable, _ in pairs:
        told = told_at(road.setting().code(), road.run(), made, variable)
        shown.append((variable, told[1] if told[0] == "shown" else None))
    return tuple(shown)


def seen_from(stand):
    """What is seen at a stand."""
    road, t, made = stand
    moment, frames, asked, outputs, result = road.view(t)
    if made is not None:
        born, name, index, pairs = frames[-1]
        frames = frames[:-1] + ((born, name, index, _shown_as_told(road, made, pairs)),)
    return (moment, frames, asked, outputs, result)


def seen_at(setting, place):
    """What is seen at a place: the view, and at a made moment what is told there as shown."""
    return seen_from(stand_at(setting, place))


def _come_to(road, t):
    if not road.shows(t):
        raise NoMoment(t)
    return (road, t, None)


def _on(stand, command):
    return _come_to(stand[0], stand[1] + command[1])


def _to(stand, command):
    return _come_to(stand[0], command[1])


def _back(stand, command):
    road, moment, _ = stand
    left = command[1]
    while left > moment - road.floor():
        ahead = road.ahead()
        if ahead is None:
            raise NoMoment(None)
        # The step back from the floor leads to where the landing was begun.
        left = left - (moment - road.floor()) - 1
        road, moment = road.begun(len(ahead[0])), ahead[1]
    return (road, moment - left, None)


def _first_holding(road, moments, condition):
    """The first of some moments at which a condition holds that asks nothing gone then."""
    run = road.run()
    if not is_condition_of(run.program(), condition):
        raise NoCondition(condition)
    asked = cells_in(condition)
    for t in moments:
        gone = road.gone_at(t)
        if any([cell in gone for cell in asked]):
            continue
        if holds_in(run.program(), run.state(t), condition):
            return (road, t, None)
    raise NoMoment(None)


def _next(stand, command):
    road, moment, _ = stand
    return _first_holding(road, list(range(moment + 1, road.run().last() + 1)), command[1])


def _last(stand, command):
    road, moment, _ = stand
    return _first_holding(road, list(range(moment - 1, road.floor() - 1, -1)), command[1])


def _left_at(road, moment):
    """The road without the change legs, behind the last land leg, that are at moments above this one."""
    legs = road.legs()
    many = len(legs)
    while many > 0 and legs[many - 1][0] == "change" and legs[many - 1][1] > moment:
        many = many - 1
    if many == MOST_LEGS:
        raise TooMany(MOST_LEGS)
    return road.begun(many)


def _change(stand, command):
    road, moment, _ = stand
    if frame_of(road.run().program(), road.run().state(moment), command[1:3]) is None:
        raise NoCell(command[1:3])
    led = _left_at(road, moment).led_by(("change", moment) + command[1:])
    return (led, moment, None)


def _land(stand, command):
    road, moment, _ = stand
    number = command[1]
    if road.setting().edits()[number].old() != road.run().program():
        raise NoEdit(number)
    left = _left_at(road, moment)
    try:
        led = left.led_by(("land", moment, number))
    except NoRoad:
        raise NoLanding(moment) from None
    return (led, led.floor(), None)


def _stop(stand, command):
    road, moment, _ = stand
    if not _is_made_moment(road, moment, command[1:]):
        raise NoStop(command[1:])
    return (road, moment, command[1:])


def _home(stand, command):
    return (stand[0].begun(0), 0, None)


LEADING = {"on": _on, "back": _back, "to": _to, "next": _next, "last": _last, "change": _change, "land": _land,
           "stop": _stop, "home": _home}


def stand_behind(stand, command):
    """The stand to which any value leads from a stand; refuses what is no command, or cannot be done there."""
    if not is_command_of(stand[0].setting(), command):
        raise NoCommand(command)
    lead = LEADING[command[0]]
    return lead(stand, command)


def place_behind(setting, place, command):
    """The place to which a command leads from a place."""
    return place_of(stand_behind(stand_at(setting, place), command))


def can_do(setting, place, command):
    """Whether any value is a command that can be done at a place."""
    stand = stand_at(setting, place)
    try:
        stand_behind(stand, command)
    except (MomentError, TooMany):
        return False
    return True


def places_behind(setting, place, commands):
    """The list of the places behind each of some commands, done one behind the other."""
    stand = stand_at(setting, place)
    if not isinstance(commands, (list, tuple)):
        raise NoCommand(None)
    places = []
    for command in commands:
        stand = stand_behind(stand, command)
        places.append(place_of(stand))
    return places


def see_alike(setting, one, other):
    """Whether what is seen at two places of a setting is the same."""
    return seen_at(setting, one) == seen_at(setting, other)
