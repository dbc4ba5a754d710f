"""Judging scripts of several connections to one database for all interleavings."""

from cursorhouse.errors import ProgrammingError
from cursorhouse.locks import NO_LOCK
from cursorhouse.steps import (
    checked_scripts, is_open_behind, is_reading_behind, is_refused, lock_behind, lock_of_refused,
)
from cursorhouse.values import is_plain_int

ORDER = "order"
NEVER = "never"


def first_state(scripts):
    """Return the state in which no script has executed a step."""
    return _first(checked_scripts(scripts))


def next_state(scripts, state, at):
    """Return the state after a script has tried its next step, and whether the step was refused."""
    checked = checked_scripts(scripts)
    if not _can_try(checked, state, at):
        raise ProgrammingError()
    return _tried(checked, state, at)


def refusal(scripts):
    """Return "order" and a shortest order whose last step is refused, else "never" and the list of all states."""
    return _refusal(checked_scripts(scripts))


def is_order(scripts, order):
    """Tell whether an object is an order whose last step is refused, and no earlier one."""
    checked = checked_scripts(scripts)
    if not isinstance(order, (list, tuple)) or len(order) == 0:
        return False
    state = _first(checked)
    for at in order[:-1]:
        if not _can_try(checked, state, at):
            return False
        state, refused = _tried(checked, state, at)
        if refused:
            return False
    return _can_try(checked, state, order[-1]) and _tried(checked, state, order[-1])[1]


def is_never(scripts, states):
    """Tell whether an object lists just the states that can be reached, and no step is refused in any of them."""
    return _is_told(_refusal(checked_scripts(scripts)), states)


def stuck(scripts):
    """Return "order" and a shortest order that leads to a stuck state, else "never" and the list of all states."""
    return _stuck(checked_scripts(scripts))


def is_stuck(scripts, order):
    """Tell whether an object is an order that leads to a stuck state."""
    checked = checked_scripts(scripts)
    if not isinstance(order, (list, tuple)):
        return False
    state = _first(checked)
    for at in order:
        if not _can_try(checked, state, at):
            return False
        state, _ = _tried(checked, state, at)
    return _is_stuck_among(_tries(checked, state))


def is_free(scripts, states):
    """Tell whether an object lists just the states that can be reached, and none of them is stuck."""
    return _is_told(_stuck(checked_scripts(scripts)), states)


def calmed(scripts):
    """Return the scripts with as few "begin" as possible replaced such that they are never stuck, or None."""
    checked = checked_scripts(scripts)
    places = []
    for at, script in enumerate(checked):
        places += [(at, place) for place, step in enumerate(script) if step == "begin"]
    choices = [()]
    for _ in range(len(places) + 1):
        for chosen in choices:
            changed = _with_immediate(checked, chosen)
            if _stuck(changed)[0] == NEVER:
                return changed
        # The choices of one more place, the least ones first.
        choices = [(*fewer, place) for fewer in choices for place in places if fewer == () or place > fewer[-1]]
    return None


def _with_immediate(scripts, chosen):
    changed = []
    for at, script in enumerate(scripts):
        changed.append(tuple(["immediate" if (at, k) in chosen else step for k, step in enumerate(script)]))
    return changed


def _first(scripts):
    return tuple([(0, False, False, NO_LOCK) for _ in scripts])


def _can_try(scripts, state, at):
    return is_plain_int(at) and 0 <= at < len(scripts) and state[at][0] < len(scripts[at])


def _tried(scripts, state, at):
    """Return the state after a script that has a step left has tried it, and whether the step was refused."""
    place, opened, reads, held = state[at]
    step = scripts[at][place]
    other = max([told[3] for k, told in enumerate(state) if k != at], default=NO_LOCK)
    refused = is_refused(step, opened, held, other)
    if refused:
        held = lock_of_refused(step, held)
    else:
        place += 1
        opened = is_open_behind(step, opened)
        reads = is_reading_behind(step, reads)
        held = lock_behind(step, opened, reads, held)
    changed = [tuple(told) for told in state]
    changed[at] = (place, opened, reads, held)
    return tuple(changed), refused


def _tries(scripts, state):
    """Return what the scripts that have not ended can try: triples of the number, if refused, and the state behind."""
    tries = []
    for at in range(len(scripts)):
        if _can_try(scripts, state, at):
            behind, refused = _tried(scripts, state, at)
            tries.append((at, refused, behind))
    return tries


def _refusal(scripts):
    return _searched(scripts, _order_end_if_refused)


def _stuck(scripts):
    return _searched(scripts, _order_end_if_stuck)


def _order_end_if_refused(tries):
    for at, refused, _ in tries:
        if refused:
            return (at,)
    return None


def _order_end_if_stuck(tries):
    return () if _is_stuck_among(tries) else None


def _is_stuck_among(tries):
    return tries != [] and all([told[1] for told in tries])


def _searched(scripts, order_end):
    """Return "order" and the shortest order that a state ends, else "never" and the list of all states.

    Which states end it tells `order_end`, a function of the tries of a state: the rest of the order, or None.
    """
    start = _first(scripts)
    orders = {start: ()}
    states = [start]
    while states != []:
        following = []
        for state in states:
            tries = _tries(scripts, state)
            rest = order_end(tries)
            if rest is not None:
                return ORDER, orders[state] + rest
            for at, _, behind in tries:
                if behind not in orders:
                    orders[behind] = orders[state] + (at,)
                    following.append(behind)
        states = following
    return NEVER, sorted(list(orders))


def _is_told(found, states):
    """Tell whether an object lists just the states that a search has found."""
    kind, wanted = found
    if kind == ORDER or not isinstance(states, (list, tuple)):
        return False
    reached = {state: True for state in wanted}
    told = {}
    for state in states:
        plain = _plain_state(state)
        if plain not in reached:
            return False
        told[plain] = True
    return len(told) == len(reached)


def _plain_state(state):
    """Return an object as a tuple of tuples if it is a state, perhaps of lists, else None."""
    if not isinstance(state, (list, tuple)) or False in [_is_standing(told) for told in state]:
        return None
    return tuple([tuple(told) for told in state])


def _is_standing(told):
    """Tell whether an object is of the kind that a state has for each script; booleans are no integers here."""
    if not isinstance(told, (list, tuple)) or len(told) != 4:
        return False
    place, opened, reads, held = told
    return is_plain_int(place) and isinstance(opened, bool) and isinstance(reads, bool) and is_plain_int(held)
