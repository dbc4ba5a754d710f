"""What the tests of scripts share: a model of section 9 of its own, random scripts, and scripts that are executed."""

from itertools import product

from cursorhouse.errors import OperationalError
from cursorhouse.library import Library

STEPS = ("begin", "immediate", "exclusive", "commit", "rollback", "read", "start", "stop", "write")
TEXTS = {"begin": "begin", "immediate": "begin immediate", "exclusive": "begin exclusive", "commit": "commit",
         "rollback": "rollback", "read": "select a from t", "start": "select a from t", "write": "update t set a = a + 1"}


class Refused(Exception):
    pass


def model_first(scripts):
    return tuple((0, False, False, 0) for _ in scripts)


def model_next(scripts, state, at):
    """Try a step as points 37 to 39 tell it, one lock after another."""
    place, opened, reads, lock = state[at]
    others = [entry[3] for k, entry in enumerate(state) if k != at]
    step = scripts[at][place]
    try:
        opened, reads, lock = model_step(step, opened, reads, lock, others)
    except Refused:
        if step == "commit":
            lock = 4 if lock == 4 else 3
        entry, refused = (place, opened, reads, lock), True
    else:
        if not opened:
            lock = 1 if reads else 0
        entry, refused = (place + 1, opened, reads, lock), False
    return tuple(entry if k == at else old for k, old in enumerate(state)), refused


def model_step(step, opened, reads, lock, others):
    if step == "begin":
        return True, reads, lock
    if step == "immediate":
        return True, reads, with_reserved(with_shared(lock, others), others)
    if step == "exclusive":
        return True, reads, with_exclusive(with_reserved(with_shared(lock, others), others), others)
    if step == "commit":
        if lock >= 2:
            with_exclusive(lock, others)
        return False, reads, lock
    if step == "rollback":
        return False, reads, lock
    if step == "read":
        return opened, reads, with_shared(lock, others)
    if step == "start":
        return opened, True, with_shared(lock, others)
    if step == "stop":
        return opened, False, lock
    lock = with_reserved(with_shared(lock, others), others)
    if not opened:
        with_exclusive(lock, others)
    return opened, reads, lock


def with_shared(lock, others):
    if lock < 1 and any(other in (3, 4) for other in others):
        raise Refused()
    return max(lock, 1)


def with_reserved(lock, others):
    if lock < 2 and any(other in (2, 3, 4) for other in others):
        raise Refused()
    return max(lock, 2)


def with_exclusive(lock, others):
    if lock < 4 and any(other != 0 for other in others):
        raise Refused()
    return 4


def live(scripts, state):
    return [at for at, script in enumerate(scripts) if state[at][0] < len(script)]


def model_states(scripts):
    """Return all states that can be reached, also by refused steps, by a search in depth."""
    found, waiting = set(), [model_first(scripts)]
    while waiting:
        state = waiting.pop()
        if state not in found:
            found.add(state)
            waiting += [model_next(scripts, state, at)[0] for at in live(scripts, state)]
    return sorted(found)


def model_is_stuck(scripts, state):
    numbers = live(scripts, state)
    return bool(numbers) and all(model_next(scripts, state, at)[1] for at in numbers)


def model_can_be_refused(scripts):
    return any(model_next(scripts, state, at)[1] for state in model_states(scripts) for at in live(scripts, state))


def walk(scripts, order):
    """Return the state behind an order and the list of what was refused, None if a script has no such step."""
    state, told = model_first(scripts), []
    for at in order:
        if at not in live(scripts, state):
            return None
        state, refused = model_next(scripts, state, at)
        told.append(refused)
    return state, told


def ends_refused(scripts, order):
    walked = walk(scripts, order)
    return walked is not None and walked[1] != [] and walked[1][-1] and not any(walked[1][:-1])


def ends_stuck(scripts, order):
    walked = walk(scripts, order)
    return walked is not None and model_is_stuck(scripts, walked[0])


def all_orders(scripts, length):
    return product(range(len(scripts)), repeat=length)


def random_script(chance, length):
    opened = reads = False
    script = []
    while len(script) < length:
        step = chance.choice(STEPS)
        if step in ("begin", "immediate", "exclusive"):
            fits = not opened
            behind = True, reads
        elif step in ("commit", "rollback"):
            fits = opened
            behind = False, reads
        elif step in ("start", "stop"):
            fits = reads == (step == "stop")
            behind = opened, step == "start"
        else:
            fits = True
            behind = opened, reads
        if fits:
            script.append(step)
            opened, reads = behind
    return tuple(script)


def random_scripts(chance, most_scripts, most_steps):
    return [random_script(chance, chance.randint(0, most_steps)) for _ in range(chance.randint(1, most_scripts))]


# Whole transactions and reads, of which scripts are made that begin some of them too late.
PARTS = (
    ("begin", "read", "write", "commit"), ("begin", "write", "commit"), ("begin", "read", "commit"), ("begin", "start", "stop", "write", "commit"),
    ("begin", "read", "write", "rollback"), ("begin", "write", "rollback"), ("begin", "commit"), ("immediate", "read", "write", "commit"),
    ("exclusive", "commit"), ("start", "stop"), ("read",), ("write",),
)


def random_parts(chance, most_scripts):
    """Return scripts of one or two such parts."""
    scripts = []
    for _ in range(chance.randint(1, most_scripts)):
        parts = [chance.choice(PARTS) for _ in range(chance.randint(1, 2))]
        scripts.append(sum(parts, ()) if sum(map(len, parts)) <= 8 else parts[0])
    return scripts


class Runner:
    """Executes the steps of scripts by connections in legacy mode whose isolation_level is None."""

    def __init__(self, scripts):
        self.scripts = scripts
        library = Library()
        first = library.connect("db", isolation_level=None)
        first.execute("create table t(a)")
        first.execute("insert into t values(1), (2), (3)")
        self.connections = [library.connect("db", isolation_level=None) for _ in scripts]
        self.cursors = [None for _ in scripts]
        self.places = [0 for _ in scripts]

    def attempt(self, at):
        """Try the next step of a script; tell whether it was refused."""
        step = self.scripts[at][self.places[at]]
        try:
            self.execute(step, at)
        except OperationalError as error:
            if error.sqlite_errorname != "SQLITE_BUSY":
                raise
            return True
        self.places[at] += 1
        return False

    def execute(self, step, at):
        if step == "stop":
            self.cursors[at].close()
            self.cursors[at] = None
            return
        cursor = self.connections[at].execute(TEXTS[step])
        if step == "start":
            cursor.fetchone()
            self.cursors[at] = cursor
        elif step == "read":
            cursor.fetchall()

    def state(self):
        return tuple((place, db.in_transaction, cursor is not None, db.lock)
                     for place, db, cursor in zip(self.places, self.connections, self.cursors))
