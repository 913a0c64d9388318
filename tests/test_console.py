"""The console: every command, every failure, and commands that are drawn by chance."""

import math
import random
import re
import unittest

from handwalk.console import Console
from handwalk.decisions import decide
from handwalk.networks import Network
from handwalk.walkers import Walker
from tests import oracle
from tests.records import Record
from tests.samples import (
    QuickTestCase, deep_values, greatest_networks, larger_networks, odd_tuples, odd_values, random_state,
    small_networks,
)

NUMBER = "(0|[1-9][0-9]{0,3})"
FORMS = [
    f"new( {NUMBER} {NUMBER}( / {NUMBER} {NUMBER})*)?", f"step {NUMBER}", f"walk( {NUMBER})*", "back", "state", "text",
    "count", f"decide {NUMBER}( {NUMBER})+", f"bring {NUMBER} {NUMBER}",
]
RIGHT = ["step 0", "walk", "walk 0", "walk 0 1 0 1", "back", "state", "text", "count", "decide 0 0", "decide 0 0 1 2",
         "bring 0 0", "bring 9999 0"]


def has_form(command):
    return isinstance(command, str) and any(re.fullmatch(form, command) for form in FORMS)


def new_command(network):
    return "new" + " /".join(f" {u} {v}" for u, v in network.passages)


class Model:
    """What a console should return."""

    def __init__(self):
        self.record = None

    def results(self, command):
        """Return the list of the results that are right, and change as the console should."""
        if not has_form(command):
            return ["bad command"]
        word, *words = command.split(" ")
        numbers = [int(number) for number in words if number != "/"]
        if word == "new":
            return [self.new(numbers)]
        if self.record is None:
            return ["no walker"]
        found = getattr(self, word)(*numbers)
        return found if isinstance(found, list) else [found]

    def new(self, numbers):
        pairs = tuple(zip(numbers[::2], numbers[1::2]))
        places = max(numbers, default=0) + 1
        if places > 12 or len(pairs) > 16 or any(u > v for u, v in pairs) or not Network.is_valid(places, pairs):
            return "bad network"
        self.record = Record(Walker, Network(places, pairs))
        return "ok"

    def walk(self, *steps):
        after, refused = self.record.after(steps)
        if refused is not None:
            return {"step": "bad step", "limit": "too many steps"}[refused[0]]
        self.record = after
        return str(after.state[0])

    def step(self, step):
        return self.walk(step)

    def back(self):
        if not self.record.steps:
            return "nothing to undo"
        self.record.back()
        return str(self.record.state[0])

    def state(self):
        place, things = self.record.state
        return " ".join(str(number) for number in (place, *things))

    def text(self):
        return self.words(self.record.steps)

    def words(self, numbers):
        return " ".join(str(number) for number in numbers) or "none"

    def count(self):
        many = self.record.network.places
        for part in oracle.described_parts(self.record.network):
            seats = len(part.seats)
            many *= {"ring": seats, "special": 120, "all": math.factorial(seats),
                     "even": math.factorial(seats) // 2}[part.kind]
        return str(many)

    def decide(self, place, *things):
        network = self.record.network
        if place >= network.places or sorted(things) != list(range(len(network.passages) + 1)):
            return "bad state"
        home = oracle.home(network, (place, things))
        described = oracle.described_parts(network)
        if oracle.is_reachable(network, described, home):
            return "walk"
        astray = ["astray"] if oracle.astray(network, described, home) else []
        words = {"ring": "ring", "even": "odd", "special": "ratio"}
        return astray + [
            words[part.kind] for part in described if not part.strays(home) and not part.fits(home)
        ]

    def bring(self, thing, position):
        network = self.record.network
        if thing > len(network.passages):
            return "bad thing"
        if position > len(network.passages):
            return "bad position"
        spots = oracle.all_spots(network, (0, thing))
        walk = oracle.least_of([walk for spot, walk in spots.items() if spot[1] == position])
        return "no" if walk is None else self.words(walk)


class ConsoleTestCase(QuickTestCase):
    def check(self, console, *pairs):
        for command, result in pairs:
            found = console.run(command)
            self.assertEqual(found, result, command)
            self.assertIs(type(found), str)

    def check_unchanged(self, console, command, result):
        """Check that the command fails and changes nothing."""
        before = [console.run(word) for word in ("state", "text", "count")]
        self.check(console, (command, result))
        self.assertEqual([console.run(word) for word in ("state", "text", "count")], before)


class TestCommands(ConsoleTestCase):
    def test_new(self):
        console = Console()
        self.check(
            console, ("new", "ok"), ("state", "0 0"), ("count", "1"), ("new 0 0", "ok"), ("state", "0 0 1"),
            ("count", "2"), ("new 0 1 / 1 1", "ok"), ("state", "0 0 1 2"), ("new 0 1 / 0 1 / 0 1", "ok"),
            ("state", "0 0 1 2 3"), ("new 0 11" + "".join(f" / {k} 11" for k in range(1, 12)), "ok"),
            ("state", "0 0 1 2 3 4 5 6 7 8 9 10 11 12"), ("new" + " 0 0 /" * 15 + " 0 0", "ok"),
            ("state", "0 " + " ".join(str(k) for k in range(17))), ("count", str(math.factorial(17))),
        )

    def test_a_new_walker_is_at_the_start(self):
        console = Console()
        self.check(
            console, ("new 0 1 / 0 1", "ok"), ("walk 0 1 0", "1"), ("new 0 1 / 0 1", "ok"), ("text", "none"),
            ("state", "0 0 1 2"), ("back", "nothing to undo"),
        )

    def test_step_walk_and_back(self):
        console = Console()
        self.check(
            console, ("new 0 1 / 1 2 / 2 2", "ok"), ("step 0", "1"), ("step 1", "2"), ("step 2", "2"), ("text", "0 1 2"),
            ("state", "2 3 0 1 2"), ("back", "2"), ("back", "1"), ("text", "0"), ("walk", "1"), ("walk 1", "2"),
            ("walk 2 2 1 0", "0"), ("text", "0 1 2 2 1 0"), ("state", "0 0 1 2 3"), ("walk 0 0", "0"), ("back", "1"),
            ("back", "0"),
        )

    def test_equal_steps_are_kept(self):
        console = Console()
        self.check(console, ("new 0 1", "ok"), ("step 0", "1"), ("step 0", "0"), ("text", "0 0"), ("back", "1"))

    def test_count(self):
        for network in small_networks() + larger_networks() + greatest_networks():
            console, model = Console(), Model()
            for command in (new_command(network), "count"):
                self.assertEqual([console.run(command)], model.results(command))

    def test_decide(self):
        console = Console()
        self.check(
            console, ("new 0 1 / 0 1", "ok"), ("decide 0 0 1 2", "walk"), ("decide 0 2 0 1", "walk"),
            ("decide 0 1 0 2", "ring"), ("decide 1 2 1 0", "walk"), ("decide 1 0 1 2", "ring"),
            ("new 0 1 / 1 1", "ok"), ("decide 0 1 0 2", "walk"), ("decide 0 2 1 0", "astray"),
            ("new 0 1 / 0 1 / 0 1", "ok"), ("decide 0 1 2 0 3", "walk"), ("decide 0 1 0 2 3", "odd"),
            ("new 0 1 / 1 2 / 2 3 / 0 3 / 0 2", "ok"), ("decide 0 1 0 2 3 4 5", "ratio"),
            ("new", "ok"), ("decide 0 0", "walk"),
        )

    def test_decide_does_not_depend_on_the_walker(self):
        console = Console()
        self.check(console, ("new 0 1 / 0 1", "ok"), ("walk 0 1", "0"), ("decide 0 0 1 2", "walk"), ("bring 2 0", "0"),
                   ("decide 1 2 1 0", "walk"), ("count", "6"), ("text", "0 1"))

    def test_bring(self):
        console = Console()
        self.check(
            console, ("new 0 1 / 1 1", "ok"), ("bring 1 0", "0 1 0"), ("bring 2 2", "none"), ("bring 2 1", "no"),
            ("bring 0 0", "none"), ("step 0", "1"), ("bring 1 0", "0 1 0"), ("bring 0 2", "0"), ("bring 1 2", "0 1"),
            ("new", "ok"), ("bring 0 0", "none"),
        )


class TestFailures(ConsoleTestCase):
    def test_values_that_are_no_commands(self):
        values = odd_values() + odd_tuples() + [0, ["state"], ("state",), b"state", Console, Console(), *deep_values()]
        for value in values:
            self.check(Console(), (value, "bad command"))
            console = Console()
            self.check(console, ("new 0 1 / 0 1", "ok"), ("walk 0 1", "0"))
            self.check_unchanged(console, value, "bad command")

    def test_commands_without_a_walker(self):
        console = Console()
        for command in RIGHT:
            self.check(console, (command, "no walker"))
        for command in ("", "step", "step x", "walk 01", "back 0", "decide 0", "bring 0", "bring 0 1 2", "run"):
            self.check(console, (command, "bad command"))
        for command in ("new 1 0", "new 1 1", "new 0 12"):
            self.check(console, (command, "bad network"), ("state", "no walker"))
        self.check(console, ("new", "ok"), ("state", "0 0"))

    def test_wrong_forms(self):
        for command in (
            "", " ", "  ", "\n", "x", "news", "New", "NEW", "step", "walks 0", "step 0 1", "step 0 0", "back 0", "state 0",
            "text 0", "count 0", "decide", "decide 0", "bring", "bring 0", "bring 0 1 2", "new 0", "new 0 1 0 1",
            "new 0 1 / 0", "new 0 1 2", "new 0 1 / 0 1 2", "new /", "new / 0 1", "new 0 1 /", "new 0 1 / / 0 1",
            "new 0 1 // 0 1", "new 0 1/0 1", "new 0 1 /0 1", "new 0 1/ 0 1", "new 0 / 1", "new 0 1 : 0 1", "new 0 1 0",
            "new 0 1 / x 1", "new 0 x", "step /", "walk 0 / 1", "walk /", "decide 0 / 1", "bring 0 / 1", "/", "0",
            "state ", " state", "state  ", "step  0", "step 0 ", " step 0", "walk ", "walk  0", "walk 0  0", "walk 0 ",
            "new ", " new", "new  0 1", "new 0 1 ", "new 0  1", "new 0 1  / 0 1", "new 0 1 /  0 1", "state\n", "\nstate",
            "step 0\n", "step\n0", "step\t0", "back\nback", "new\n", "step 00", "step 01", "step +0", "step -0", "step -1",
            "step 0x0", "step 0.0", "step 10000", "step 00000", "step " + "0" * 5000, "step " + "9" * 5000, "step 1_0",
            "walk 0 01", "walk 0 12345", "walk 0 x", "new 00 1", "new 0 01", "new 0 12345", "new 0 1 / 0 00001",
            "decide 0 01", "decide 00 0", "decide x 0", "decide 0 0 1 x", "bring 00 0", "bring 0 00", "bring 0 x",
            "bring 12345 0", "bring 0 12345", "step None", "step True", "step \u0660", "step \u00b9", "walk \uff11",
            "__init__", "run 0", "quit", "help", "network 2", "passage 0 1", "read", "peek 0", "summary",
        ):
            self.assertFalse(has_form(command), command)
            self.check(Console(), (command, "bad command"))
            console = Console()
            self.check(console, ("new 0 1 / 0 1", "ok"), ("walk 0 1", "0"))
            self.check_unchanged(console, command, "bad command")

    def test_bad_networks(self):
        console = Console()
        self.check(console, ("new 0 1 / 0 1", "ok"), ("walk 0 1", "0"))
        for command in (
            "new 1 0", "new 0 12", "new 12 12", "new 0 9999", "new 9999 0", "new 1 1", "new 0 2", "new 0 1 / 2 3",
            "new 0 1 / 1 0", "new 0 11", "new" + " 0 0 /" * 16 + " 0 0", "new" + " 0 1 /" * 200 + " 0 1",
        ):
            self.check_unchanged(console, command, "bad network")
            self.check(Console(), (command, "bad network"))
        self.check(console, ("state", "0 2 0 1"))

    def test_bad_steps(self):
        console = Console()
        self.check(console, ("new 0 1 / 1 1", "ok"))
        for command in ("step 1", "step 2", "step 9999", "walk 1", "walk 2", "walk 0 1 1 0 1", "walk 0 0 9999", "walk 16"):
            self.check_unchanged(console, command, "bad step")
        self.check(console, ("step 0", "1"))
        for command in ("step 2", "walk 0 1", "walk 1 1 2"):
            self.check_unchanged(console, command, "bad step")
        console.run("new")
        for command in ("step 0", "walk 0", "step 1"):
            self.check_unchanged(console, command, "bad step")

    def test_too_many_steps(self):
        console = Console()
        self.check(console, ("new 0 1 / 0 1", "ok"), ("walk" + " 0 1" * 499, "0"), ("walk 0", "1"))
        self.check_unchanged(console, "walk 0 1", "too many steps")
        self.check_unchanged(console, "walk 0 1 9", "too many steps")
        self.check_unchanged(console, "walk 0 9", "bad step")
        self.check_unchanged(console, "walk 9", "bad step")
        self.check(console, ("step 0", "0"))
        self.check_unchanged(console, "step 0", "too many steps")
        self.check_unchanged(console, "step 2", "bad step")
        self.check_unchanged(console, "walk 0", "too many steps")
        self.check_unchanged(console, "walk 2", "bad step")
        self.check(console, ("walk", "0"), ("back", "1"), ("step 1", "0"))
        self.check_unchanged(console, "walk 1", "too many steps")
        self.check(Console(), ("new 0 0", "ok"), ("walk" + " 0" * 1001, "too many steps"), ("text", "none"),
                   ("walk" + " 0" * 1000, "0"), ("text", " ".join(["0"] * 1000)), ("back", "0"))
        self.check(Console(), ("new 0 0", "ok"), ("walk" + " 0" * 1000 + " 1", "bad step"),
                   ("walk" + " 0" * 1001 + " 1", "too many steps"), ("walk" + " 0" * 9000, "too many steps"))

    def test_nothing_to_undo(self):
        console = Console()
        self.check(console, ("new 0 1 / 0 1", "ok"))
        self.check_unchanged(console, "back", "nothing to undo")
        self.check(console, ("walk 0 1", "0"), ("back", "1"), ("back", "0"))
        self.check_unchanged(console, "back", "nothing to undo")

    def test_bad_states(self):
        console = Console()
        self.check(console, ("new 0 1 / 0 1", "ok"), ("step 0", "1"))
        for command in (
            "decide 2 0 1 2", "decide 0 0 1", "decide 0 0 1 2 3", "decide 0 0 1 1", "decide 0 0 1 3", "decide 0 0",
            "decide 9999 0 1 2", "decide 0 0 1 9999", "decide 0 1 2 3", "decide 0" + " 0" * 5000, "decide 2 0",
        ):
            self.check_unchanged(console, command, "bad state")

    def test_bad_things_and_positions(self):
        console = Console()
        self.check(console, ("new 0 1 / 0 1", "ok"), ("step 0", "1"))
        for command, result in (
            ("bring 3 0", "bad thing"), ("bring 3 3", "bad thing"), ("bring 9999 9999", "bad thing"),
            ("bring 0 3", "bad position"), ("bring 2 9999", "bad position"), ("bring 9999 0", "bad thing"),
        ):
            self.check_unchanged(console, command, result)

    def test_two_consoles_do_not_disturb_each_other(self):
        first, second = Console(), Console()
        self.check(first, ("new 0 1 / 0 1", "ok"), ("walk 0 1", "0"))
        self.check(second, ("state", "no walker"), ("new 0 0", "ok"), ("step 0", "0"))
        self.check(first, ("state", "0 2 0 1"), ("back", "1"), ("count", "6"))
        self.check(second, ("state", "0 1 0"), ("text", "0"), ("count", "2"))
        self.check(Console(), ("state", "no walker"))

    def test_by_name(self):
        console = Console()
        self.assertEqual((console.run(command="new"), console.run(command=None)), ("ok", "bad command"))


class TestDrawnCommands(ConsoleTestCase):
    def drawn(self, rng, record):
        """Return a command that is drawn by chance, often a right one."""
        network = record.network if record else Network(1, ())
        many = len(network.passages)
        number = rng.choice([str(rng.randrange(many + 2)), str(rng.randrange(3)), "17"])
        state = list(network.start[1])
        if rng.random() < 0.5:
            state = rng.sample(state, len(state))
        elif record:
            state = list(record.state[1])
        steps = [step for step, _ in record.choices()] if record else []
        step = rng.choice(steps) if steps and rng.random() < 0.9 else number
        return rng.choice([
            f"step {step}", f"step {step}", f"walk {step}", f"walk {step} {step} {number}", "back", "state", "text",
            "walk", f"bring {number} {rng.randrange(many + 2)}", f"decide {rng.randrange(network.places + 1)} "
            + " ".join(str(thing) for thing in state), "count",
        ])

    def changed(self, rng, command):
        """Return the command with some signs changed."""
        signs = list(command)
        for _ in range(rng.randrange(1, 3)):
            at = rng.randrange(len(signs) + 1)
            signs[at:at + rng.randrange(2)] = rng.choices(" 0129/-\nswx", k=rng.randrange(2))
        return "".join(signs)

    def check_drawn(self, network, rng, many):
        console, model = Console(), Model()
        commands = ["state", new_command(network)]
        for number in range(many):
            command = commands.pop(0) if commands else self.drawn(rng, model.record)
            if number > 1 and rng.random() < 0.2:
                command = self.changed(rng, command)
            self.assertIn(console.run(command), model.results(command), command)

    def test_small_networks(self):
        rng = random.Random(72)
        for network in small_networks()[::2]:
            self.check_drawn(network, rng, 60)

    def test_larger_networks(self):
        rng = random.Random(73)
        for network in larger_networks() + greatest_networks():
            self.check_drawn(network, rng, 60)

    def test_new_networks_by_chance(self):
        rng = random.Random(74)
        console, model = Console(), Model()
        answers = []
        for _ in range(1500):
            pairs = [(rng.randrange(4), rng.randrange(4)) for _ in range(rng.randrange(5))]
            pairs = [tuple(sorted(pair)) if rng.random() < 0.9 else pair for pair in pairs]
            command = "new" + " /".join(f" {u} {v}" for u, v in pairs)
            if rng.random() < 0.2:
                command = self.changed(rng, command)
            [expected] = model.results(command)
            answers.append(expected)
            self.assertEqual(console.run(command), expected, command)
            self.assertEqual([console.run("state")], model.results("state"))
            if rng.random() < 0.5:
                command = self.drawn(rng, model.record)
                self.assertIn(console.run(command), model.results(command), command)
        for answer in ("ok", "bad network", "bad command"):
            self.assertTrue(answers.count(answer) > 50)

    def test_the_walk_of_decide(self):
        rng = random.Random(75)
        for network in larger_networks():
            console = Console()
            self.assertEqual(console.run(new_command(network)), "ok")
            (place, things), _ = random_state(network, rng, 20)
            state = " ".join(str(number) for number in (place, *things))
            self.assertEqual(console.run("decide " + state), "walk")
            _, walk = decide(network, (place, things))
            if len(walk) <= 1000:
                command = " ".join(["walk", *[str(step) for step in walk]])
                self.assertEqual((console.run(command), console.run("state")), (str(place), state))


if __name__ == "__main__":
    unittest.main()
