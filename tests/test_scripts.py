import random
import unittest
from itertools import product

from cursorhouse.errors import ProgrammingError
from cursorhouse.scripts import calmed, first_state, is_free, is_never, is_order, is_stuck, next_state, refusal, stuck
from script_model import (
    STEPS, Runner, all_orders, ends_refused, ends_stuck, live, model_can_be_refused, model_first, model_is_stuck, model_next,
    model_states, random_parts, random_script, random_scripts, walk,
)

EXAMPLE = [("begin", "read", "write", "commit"), ("begin", "read", "write", "commit")]
OBJECTS = (None, True, False, 0, 1, -1, 2 ** 70, "", "order", "0", (), [], {}, (None,), [[]], [()], ["0"], {"a": 1}, ((),), [[[0]]], {0: 0}, ("never", []))
WRONG_SCRIPTS = (
    None, 0, 1, True, "", "begin", {}, {"begin": 1}, [], (), ["begin"], "b", [None], [0], [{}], [True], ["read", "read"],
    [["begin"], None], [["begin"], "read"], [["beginn"]], [["BEGIN"]], [[""]], [[None]], [[0]], [[True]], [[["begin"]]], [["begin", 1]], [[("read",)]],
    [[], [], [], [], []], (("read",),) * 5, [["read"] * 9], [["begin", "commit"] * 4 + ["read"]], [[], ["write"] * 9],
    [["begin", "begin"]], [["begin", "immediate"]], [["immediate", "exclusive"]], [["exclusive", "begin"]], [["begin", "read", "begin"]],
    [["commit"]], [["rollback"]], [["begin", "commit", "commit"]], [["begin", "rollback", "commit"]], [["immediate", "commit", "rollback"]],
    [["start", "start"]], [["start", "begin", "start"]], [["stop"]], [["start", "stop", "stop"]], [["read", "stop"]], [["begin", "stop"]],
    [["read"], ["commit"]], [["read"], ["read"], ["read"], ["stop"]], [["begin transaction"]], [["select"]], [["begin "]],
)
RIGHT_SCRIPTS = (
    [[]], ((),), [(), []], [["read"] * 8], [[], [], [], []], (("begin", "commit") * 4,), [["begin", "rollback", "immediate", "commit", "exclusive", "rollback"]],
    [["start", "stop", "start", "stop"]], [["begin", "start", "commit", "stop"]], [["start", "begin", "stop", "rollback", "start"]], [["begin", "start", "rollback", "begin", "read", "write"]],
    [["write", "read", "write"], ("begin",)],
)


def shape(value):
    """Return a text in which 1 and True, and lists and tuples, differ."""
    return repr(value)


class ScriptsTest(unittest.TestCase):
    """Point 67."""

    def calls(self, scripts):
        for other in OBJECTS:
            yield from (lambda: next_state(scripts, ((0, False, False, 0),), other), lambda: is_order(scripts, other), lambda: is_never(scripts, other),
                        lambda: is_stuck(scripts, other), lambda: is_free(scripts, other))
        yield from (lambda: first_state(scripts), lambda: refusal(scripts), lambda: stuck(scripts), lambda: calmed(scripts))

    def test_what_is_no_list_of_scripts(self):
        for scripts in WRONG_SCRIPTS:
            for call in self.calls(scripts):
                with self.subTest(scripts=scripts), self.assertRaises(ProgrammingError) as caught:
                    call()
                self.assertIsNone(caught.exception.sqlite_errorname)

    def test_what_is_one(self):
        for scripts in RIGHT_SCRIPTS:
            with self.subTest(scripts=scripts):
                self.assertEqual(first_state(scripts), ((0, False, False, 0),) * len(scripts))
                for found in (refusal(scripts), stuck(scripts)):
                    self.assertIn(found[0], ("order", "never"))
                for judge in (is_order, is_never, is_stuck, is_free):
                    self.assertIs(judge(scripts, None), False)
                calmed(scripts)

    def test_random_scripts_are_scripts_and_one_more_step_decides(self):
        chance = random.Random(67)
        for _ in range(300):
            script = random_script(chance, chance.randint(0, 7))
            opened = reads = False
            for step in script:
                opened = step in ("begin", "immediate", "exclusive") or opened and step not in ("commit", "rollback")
                reads = step == "start" or reads and step != "stop"
            for step in STEPS:
                fits = {"begin": not opened, "immediate": not opened, "exclusive": not opened, "commit": opened, "rollback": opened, "start": not reads,
                        "stop": reads}.get(step, True)
                if fits:
                    first_state([(*script, step)])
                else:
                    self.assertRaises(ProgrammingError, first_state, [[*script, step]])

    def test_arguments_are_not_changed(self):
        scripts, state, order, states = [["begin", "write"], ["read"]], [[0, False, False, 0], [0, False, False, 0]], [0, 1], [[[0, False, False, 0]]]
        before = shape((scripts, state, order, states))
        first_state(scripts), next_state(scripts, state, 0), refusal(scripts), stuck(scripts), calmed(scripts)
        is_order(scripts, order), is_stuck(scripts, order), is_never(scripts, states), is_free(scripts, states)
        self.assertEqual(shape((scripts, state, order, states)), before)

    def test_parameters_by_keyword(self):
        state = first_state(scripts=EXAMPLE)
        self.assertEqual(next_state(scripts=EXAMPLE, state=state, at=0), next_state(EXAMPLE, state, 0))
        self.assertEqual((refusal(scripts=EXAMPLE)[0], stuck(scripts=EXAMPLE)[0]), ("order", "order"))
        self.assertIs(is_order(scripts=EXAMPLE, order=refusal(EXAMPLE)[1]), True)
        self.assertIs(is_stuck(scripts=EXAMPLE, order=stuck(EXAMPLE)[1]), True)
        self.assertIs(is_never(scripts=[[]], states=[((0, False, False, 0),)]), True)
        self.assertIs(is_free(scripts=[[]], states=[((0, False, False, 0),)]), True)
        self.assertEqual(calmed(scripts=[["read"]]), [("read",)])


class StatesTest(unittest.TestCase):
    """Point 68."""

    def led_to(self, scripts, order):
        state = first_state(scripts)
        for at in order:
            state, _ = next_state(scripts, state, at)
        return state

    def test_the_first_state(self):
        self.assertEqual(shape(first_state([["read"], [], ["write"]])), shape(((0, False, False, 0),) * 3))

    def test_each_step_alone(self):
        for before, step, wanted in (
                ((), "begin", (1, True, False, 0)), ((), "immediate", (1, True, False, 2)), ((), "exclusive", (1, True, False, 4)),
                ((), "read", (1, False, False, 0)), ((), "start", (1, False, True, 1)), ((), "write", (1, False, False, 0)),
                (("begin",), "commit", (2, False, False, 0)), (("begin",), "rollback", (2, False, False, 0)), (("begin",), "read", (2, True, False, 1)),
                (("begin",), "start", (2, True, True, 1)), (("begin",), "write", (2, True, False, 2)), (("immediate",), "read", (2, True, False, 2)),
                (("exclusive",), "write", (2, True, False, 4)), (("exclusive",), "start", (2, True, True, 4)), (("immediate",), "commit", (2, False, False, 0)),
                (("exclusive",), "rollback", (2, False, False, 0)), (("start",), "stop", (2, False, False, 0)), (("start",), "begin", (2, True, True, 1)),
                (("start",), "immediate", (2, True, True, 2)), (("start",), "exclusive", (2, True, True, 4)), (("start",), "write", (2, False, True, 1)),
                (("start",), "read", (2, False, True, 1)), (("begin", "start"), "stop", (3, True, False, 1)), (("begin", "start"), "commit", (3, False, True, 1)),
                (("begin", "read"), "commit", (3, False, False, 0)), (("begin", "start", "write"), "stop", (4, True, False, 2)),
                (("begin", "start", "write"), "commit", (4, False, True, 1)), (("begin", "start", "write"), "rollback", (4, False, True, 1)),
                (("start", "begin", "stop"), "read", (4, True, False, 1)), (("start", "begin", "stop"), "rollback", (4, False, False, 0)),
                (("begin", "write"), "read", (3, True, False, 2))):
            scripts = [(*before, step)]
            found = next_state(scripts, self.led_to(scripts, [0] * len(before)), 0)
            self.assertEqual(shape(found), shape(((wanted,), False)), scripts)

    def test_each_step_beside_each_lock_of_another_script(self):
        """The other scripts lead to a lock; PENDING needs a third one that reads while the second one commits."""
        leads = {0: ([()], []), 1: ([("start",)], [1]), 2: ([("immediate",)], [1]), 3: ([("immediate", "commit"), ("start",)], [2, 1, 1]),
                 4: ([("exclusive",)], [1])}
        refusing = {"begin": (), "immediate": (2, 3, 4), "exclusive": (1, 2, 3, 4), "read": (3, 4), "start": (3, 4), "write": (1, 2, 3, 4),
                    "commit": (), "rollback": (), "stop": ()}
        for (lock, (others, order)), step in product(leads.items(), STEPS):
            lead = {"commit": ("begin",), "rollback": ("begin",), "stop": ("start",)}.get(step, ())
            scripts = [(*lead, step), *others]
            # A connection that holds SHARED or more cannot stand beside EXCLUSIVE.
            if step == "stop" and lock == 4:
                continue
            state = self.led_to(scripts, [0] * len(lead) + order)
            self.assertEqual(state[1][3], lock)
            behind, refused = next_state(scripts, state, 0)
            self.assertIs(refused, lock in refusing[step], (step, lock))
            self.assertEqual(behind[1:], state[1:])
            self.assertEqual(behind == state, refused)

    def test_steps_of_one_that_holds_a_lock_beside_each_lock(self):
        for own, step, others, order, refused, lock in (
                (("begin", "read"), "write", [("immediate",)], [1], True, 1), (("begin", "read"), "write", [("start",)], [1], False, 2),
                (("begin", "read"), "write", [("immediate", "commit")], [1, 1], True, 1), (("begin", "read"), "read", [("immediate", "commit")], [1, 1], False, 1),
                (("begin", "read"), "start", [("immediate", "commit")], [1, 1], False, 1), (("start",), "immediate", [("immediate",)], [1], True, 1),
                (("start",), "exclusive", [("start",)], [1], True, 1), (("start",), "write", [("start",)], [1], True, 1), (("start",), "write", [("begin",)], [1], False, 1),
                (("begin", "write"), "commit", [("start",)], [1], True, 3), (("immediate",), "commit", [("start",)], [1], True, 3),
                (("begin", "read"), "commit", [("start",)], [1], False, 0), (("begin", "read"), "commit", [("immediate",)], [1], False, 0),
                (("begin", "write"), "rollback", [("start",)], [1], False, 0), (("begin", "write"), "write", [("start",)], [1], False, 2),
                (("begin", "start"), "stop", [("immediate", "commit")], [1, 1], False, 1)):
            scripts = [(*own, step), *others]
            found, was = next_state(scripts, self.led_to(scripts, [0] * len(own) + order), 0)
            self.assertEqual((was, found[0][3], found[0][0]), (refused, lock, len(own) + (not refused)), scripts)

    def test_a_refused_commit_leaves_pending_and_can_be_tried_again(self):
        scripts = [("begin", "write", "commit"), ("start", "stop"), ("read",)]
        state = self.led_to(scripts, [0, 0, 1])
        state, refused = next_state(scripts, state, 0)
        self.assertEqual((state, refused), (((2, True, False, 3), (1, False, True, 1), (0, False, False, 0)), True))
        self.assertEqual(next_state(scripts, state, 0), (state, True))
        self.assertEqual(next_state(scripts, state, 2), (state, True))
        state, refused = next_state(scripts, state, 1)
        self.assertIs(refused, False)
        self.assertEqual(next_state(scripts, state, 0), (((3, False, False, 0), (2, False, False, 0), (0, False, False, 0)), False))

    def test_where_at_is_no_number_of_a_script_with_a_step_left(self):
        scripts = [["read"], [], ["read"]]
        state = first_state(scripts)
        for at in (True, False, None, -1, -3, 1, 3, 4, 10 ** 30, "0", "", [0], (0,), {}, [], (), "read", 0.0):
            with self.assertRaises(ProgrammingError) as caught:
                next_state(scripts, state, at)
            self.assertIsNone(caught.exception.sqlite_errorname)
        state, _ = next_state(scripts, state, 0)
        self.assertRaises(ProgrammingError, next_state, scripts, state, 0)
        self.assertEqual(next_state(scripts, state, 2)[0], ((1, False, False, 0), (0, False, False, 0), (1, False, False, 0)))

    def test_a_state_may_be_of_lists(self):
        wanted = shape((((1, True, False, 2), (0, False, False, 0)), False))
        for state in ([[0, False, False, 0], [0, False, False, 0]], ([0, False, False, 0], (0, False, False, 0)), [(0, False, False, 0), (0, False, False, 0)]):
            self.assertEqual(shape(next_state((["immediate"], ["read"]), state, 0)), wanted)

    def test_against_a_model_in_all_states(self):
        chance = random.Random(68)
        for _ in range(150):
            scripts = random_scripts(chance, 3, 5)
            for state in model_states(scripts):
                for at in range(len(scripts)):
                    if at in live(scripts, state):
                        self.assertEqual(shape(next_state(scripts, state, at)), shape(model_next(scripts, state, at)), (scripts, state, at))
                    else:
                        self.assertRaises(ProgrammingError, next_state, scripts, state, at)

    def test_against_connections_that_execute_the_steps(self):
        chance = random.Random(69)
        for _ in range(250):
            scripts = random_scripts(chance, 4, 8)
            runner, state = Runner(scripts), first_state(scripts)
            for _ in range(50):
                numbers = live(scripts, state)
                if not numbers:
                    break
                at = chance.choice(numbers)
                state, refused = next_state(scripts, state, at)
                self.assertEqual((runner.attempt(at), runner.state()), (refused, state), scripts)


class RefusalTest(unittest.TestCase):
    """Point 69."""

    def test_examples(self):
        self.assertEqual(refusal([["write"], ["write"]]), ("never", sorted(((a, False, False, 0), (b, False, False, 0)) for a in (0, 1) for b in (0, 1))))
        self.assertEqual(shape(refusal([[]])), shape(("never", [((0, False, False, 0),)])))
        self.assertEqual(refusal([["immediate"], []])[0], "never")
        for scripts, length in (([["immediate"], ["immediate"]], 2), ([["start"], ["write"]], 2), ([["exclusive"], ["read"]], 2), ([["begin", "write"], ["write"]], 3),
                                (EXAMPLE, 6), ([["begin", "write", "commit"], ["begin", "read"]], 5)):
            kind, order = refusal(scripts)
            self.assertEqual((kind, len(order)), ("order", length))
            self.assertIs(is_order(scripts, order), True)

    def test_against_trying_all_orders_and_a_search(self):
        chance = random.Random(690)
        told = {"order": 0, "never": 0}
        for _ in range(250):
            scripts = random_scripts(chance, 3, 4)
            kind, found = refusal(scripts)
            told[kind] += 1
            self.assertEqual(kind == "order", model_can_be_refused(scripts))
            if kind == "order":
                self.assertIsInstance(found, tuple)
                self.assertTrue(all(type(at) is int for at in found))
                self.assertTrue(ends_refused(scripts, found))
                for length in range(1, len(found)):
                    self.assertFalse(any(ends_refused(scripts, order) for order in all_orders(scripts, length)))
                self.assertIs(is_never(scripts, model_states(scripts)), False)
            else:
                self.assertEqual(shape(found), shape(model_states(scripts)))
                self.assertIs(is_never(scripts, found), True)
        self.assertGreater(min(told.values()), 30)

    def test_is_order_of_all_short_orders(self):
        chance = random.Random(691)
        for _ in range(60):
            scripts = random_scripts(chance, 3, 4)
            for length in range(6):
                for order in all_orders(scripts, length):
                    self.assertIs(is_order(scripts, order), ends_refused(scripts, order), (scripts, order))
                    self.assertIs(is_order(scripts, list(order)), ends_refused(scripts, order))

    def test_is_order_of_any_object(self):
        scripts = [["immediate"], ["immediate", "read"]]
        self.assertIs(is_order(scripts, (0, 1)), True)
        self.assertIs(is_order(scripts, [1, 0]), True)
        for order in (*OBJECTS, (0, True), [False, 1], (0, "1"), (0, 2), (0, -1), (0, None), (0, 1, 1), (0, 0), (0,), ((0, 1),), [[0, 1]], {0: 1}, "01", (0, [1]),
                      (0, 1, 0), (1, 1), (0.0, 1), (-2, 1), (0, 10 ** 30), ((0,), (1,)), ("order", (0, 1))):
            self.assertIs(is_order(scripts, order), False, order)

    def test_is_never_of_tampered_states(self):
        scripts = [["begin", "read"], ["start"]]
        states = refusal(scripts)[1]
        self.assertEqual(states, model_states(scripts))
        for good in (states, tuple(states), states[::-1], states + states[:2], [list(state) for state in states], [[list(entry) for entry in state] for state in states],
                     [tuple(list(entry) for entry in state) for state in states]):
            self.assertIs(is_never(scripts, good), True)
            self.assertIs(is_free(scripts, good), True)
        self.tampered(is_never, scripts, states)
        self.tampered(is_free, scripts, states)

    def tampered(self, judge, scripts, states):
        """Change one part of a right list at a time."""
        for at, state in enumerate(states):
            self.assertIs(judge(scripts, states[:at] + states[at + 1:]), False)
            for k, entry in enumerate(state):
                for part, value in product(range(4), (0, 1, 2, 3, 4, True, False, None, "0", (0,), -1)):
                    if shape(entry[part]) == shape(value):
                        continue
                    changed = (*entry[:part], value, *entry[part + 1:])
                    wrong = (*state[:k], changed, *state[k + 1:])
                    if shape(wrong) in [shape(right) for right in states]:
                        wrong = (*state[:k], (*changed, 0), *state[k + 1:])
                    self.assertIs(judge(scripts, [*states[:at], wrong, *states[at + 1:]]), False, wrong)
                    self.assertIs(judge(scripts, [*states, wrong]), False, wrong)
                for changed in (entry[:3], (*entry, 0), (), None, 0, "entry", {}, {"a": 1}, [entry]):
                    self.assertIs(judge(scripts, [*states, (*state[:k], changed, *state[k + 1:])]), False)
            for wrong in (state[:-1], (*state, state[0]), (), [], None, 0, True, "state", {}, list(state) * 2, {"a": state}, (state,)):
                self.assertIs(judge(scripts, [*states[:at], wrong, *states[at + 1:]]), False)
                self.assertIs(judge(scripts, [*states, wrong]), False)
        for wrong in (*OBJECTS, states[0], {"states": states}, ("never", states), [states], "states"):
            self.assertIs(judge(scripts, wrong), False)

    def test_is_never_where_a_step_can_be_refused(self):
        scripts = [["immediate"], ["immediate"]]
        self.assertIs(is_never(scripts, model_states(scripts)), False)
        self.assertIs(is_never(scripts, [model_first(scripts)]), False)
        self.assertIs(is_never(scripts, []), False)


class StuckTest(unittest.TestCase):
    """Point 70."""

    def test_the_example(self):
        kind, order = stuck(EXAMPLE)
        self.assertEqual((kind, len(order)), ("order", 5))
        self.assertIs(is_stuck(EXAMPLE, order), True)
        state, _ = walk(EXAMPLE, order)
        self.assertEqual(sorted(state), [(2, True, False, 1), (3, True, False, 2)])

    def test_examples(self):
        for scripts in ([[]], [["write"] * 8], [["immediate", "commit"]] * 4, [["begin", "write", "commit"], ["begin", "write", "commit"]], [["start"], ["begin", "read"]]):
            kind, states = stuck(scripts)
            self.assertEqual((kind, states), ("never", model_states(scripts)))
            self.assertIs(is_free(scripts, states), True)
        for scripts, length in (([["start"], ["write"]], 1), ([["start"], ["begin", "write", "commit"]], 3), ([["immediate"], ["immediate"]], 1),
                                ([["start"], ["start", "exclusive"]], 2)):
            kind, order = stuck(scripts)
            self.assertEqual((kind, len(order)), ("order", length))

    def test_refused_steps_may_stand_in_an_order(self):
        """The second one is stuck only behind a refused commit of the first one, which leaves PENDING."""
        scripts = [("immediate", "commit"), ("begin", "read", "start"), ("read",)]
        self.assertIs(is_stuck(scripts, (0, 1, 1, 0, 1)), True)
        self.assertIs(is_stuck(scripts, (0, 1, 1, 0, 0, 0, 2, 2, 1)), True)
        self.assertIs(is_stuck(scripts, (0, 1, 1, 1)), False)
        kind, order = stuck(scripts)
        self.assertEqual((kind, len(order)), ("order", 5))

    def test_states_that_only_refused_steps_reach(self):
        scripts = [("immediate", "commit"), ("begin", "read", "commit")]
        kind, states = stuck(scripts)
        self.assertEqual(kind, "never")
        pending = [state for state in states if state[0][3] == 3]
        self.assertEqual(pending, [((1, True, False, 3), (2, True, False, 1)), ((1, True, False, 3), (3, False, False, 0))])
        self.assertEqual(states, model_states(scripts))
        self.assertIs(is_free(scripts, states), True)
        self.assertIs(is_free(scripts, [state for state in states if state not in pending]), False)
        self.assertIs(is_free(scripts, [state for state in states if state != pending[0]]), False)
        self.assertEqual(refusal(scripts)[0], "order")
        self.assertIs(is_never(scripts, states), False)

    def test_against_trying_all_orders_and_a_search(self):
        chance = random.Random(700)
        told = {"order": 0, "never": 0}
        for _ in range(250):
            scripts = random_scripts(chance, 3, 4)
            kind, found = stuck(scripts)
            told[kind] += 1
            states = model_states(scripts)
            self.assertEqual(kind == "order", any(model_is_stuck(scripts, state) for state in states))
            if kind == "order":
                self.assertIsInstance(found, tuple)
                self.assertTrue(all(type(at) is int for at in found))
                self.assertTrue(ends_stuck(scripts, found))
                for length in range(min(len(found), 7)):
                    self.assertFalse(any(ends_stuck(scripts, order) for order in all_orders(scripts, length)))
                self.assertIs(is_free(scripts, states), False)
            else:
                self.assertEqual(shape(found), shape(states))
                self.assertIs(is_free(scripts, found), True)
        self.assertGreater(min(told.values()), 30)

    def test_is_stuck_of_all_short_orders(self):
        chance = random.Random(701)
        for _ in range(60):
            scripts = random_scripts(chance, 3, 4)
            for length in range(6):
                for order in all_orders(scripts, length):
                    self.assertIs(is_stuck(scripts, order), ends_stuck(scripts, order), (scripts, order))
                    self.assertIs(is_stuck(scripts, list(order)), ends_stuck(scripts, order))

    def test_is_stuck_of_any_object(self):
        scripts = [["start"], ["write"], []]
        self.assertIs(is_stuck(scripts, (0,)), True)
        self.assertIs(is_stuck(scripts, [0, 1, 1]), True)
        for order in (*OBJECTS[:10], (), [], (False,), [0, True], (0, 0), (0, 2), (0, 3), (0, -2), (0, "1"), (0, None), ((0,),), {0: 0}, "0", (0, [1]), (1,), (1, 0), (0, 1.0),
                      ("order", (0,))):
            self.assertIs(is_stuck(scripts, order), False, order)
        self.assertIs(is_stuck([[], []], ()), False)

    def test_is_free_where_one_can_be_stuck(self):
        scripts = [["start"], ["write"]]
        self.assertIs(is_free(scripts, model_states(scripts)), False)
        self.assertIs(is_free(scripts, [model_first(scripts)]), False)

    def test_scripts_that_are_never_stuck_end_however_they_take_turns(self):
        chance = random.Random(702)
        for _ in range(100):
            scripts = random_scripts(chance, 3, 5)
            if stuck(scripts)[0] == "order":
                continue
            runner = Runner(scripts)
            for _ in range(sum(len(script) for script in scripts) + 1):
                for at in chance.sample(range(len(scripts)), len(scripts)):
                    if runner.places[at] < len(scripts[at]):
                        runner.attempt(at)
            self.assertEqual(runner.places, [len(script) for script in scripts])

    def test_the_most_scripts_and_steps(self):
        script = ("immediate", "read", "write", "commit", "immediate", "read", "write", "commit")
        kind, states = stuck([script] * 4)
        self.assertEqual(kind, "never")
        self.assertIs(is_free([script] * 4, states), True)
        self.assertEqual(refusal([script] * 4)[0], "order")


class CalmedTest(unittest.TestCase):
    """Point 71."""

    def replaced(self, scripts, chosen):
        return [tuple("immediate" if (at, k) in chosen else step for k, step in enumerate(script)) for at, script in enumerate(scripts)]

    def test_the_example(self):
        self.assertEqual(calmed(EXAMPLE), [("immediate", "read", "write", "commit"), ("immediate", "read", "write", "commit")])

    def test_scripts_that_are_never_stuck_stay(self):
        for scripts in ([["begin", "write", "commit"]] * 2, [[]], [["read"], ("write",)], [["begin", "read", "commit"], ["begin", "write", "commit"]]):
            self.assertEqual(shape(calmed(scripts)), shape([tuple(script) for script in scripts]))

    def test_where_nothing_helps(self):
        for scripts in ([["start"], ["write"]], [["start"], ["begin", "write", "commit"]], [["immediate"], ["begin", "write"]], [["start", "begin", "write", "commit"]] * 2):
            self.assertIsNone(calmed(scripts))

    def test_as_few_as_possible_and_the_least_list_of_pairs(self):
        """Of three scripts of which two write, one of the three pairs of choices that help is the least."""
        scripts = [["begin", "read", "write", "commit"], ["begin", "read", "commit"], ["begin", "read", "write", "commit"]]
        self.assertEqual(calmed(scripts), self.replaced(scripts, [(0, 0), (2, 0)]))
        scripts = [["begin", "commit", "begin", "read", "write", "commit"], ["begin", "read", "write", "commit"]]
        self.assertEqual(calmed(scripts), self.replaced(scripts, [(0, 2), (1, 0)]))

    def test_against_all_choices(self):
        chance = random.Random(71)
        sizes = {}
        for turn in range(200):
            scripts = random_parts(chance, 3) if turn < 160 else random_scripts(chance, 3, 5)
            places = [(at, k) for at, script in enumerate(scripts) for k, step in enumerate(script) if step == "begin"]
            calm = []
            for bits in product((0, 1), repeat=len(places)):
                chosen = [place for place, taken in zip(places, bits) if taken]
                changed = self.replaced(scripts, chosen)
                if not any(model_is_stuck(changed, state) for state in model_states(changed)):
                    calm.append((len(chosen), chosen))
            found = calmed(scripts)
            if not calm:
                self.assertIsNone(found)
                continue
            size, chosen = min(calm)
            sizes[size] = sizes.get(size, 0) + 1
            self.assertEqual(shape(found), shape(self.replaced(scripts, chosen)), scripts)
        self.assertTrue(all(sizes.get(size, 0) > 3 for size in (0, 1, 2)), sizes)


if __name__ == "__main__":
    unittest.main()
