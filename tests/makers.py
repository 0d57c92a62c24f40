"""Programs made at random that keep, cut off, wind, try, and go on again."""

import random


class Maker:
    """Each tell has a symbol of its own."""

    def __init__(self, seed):
        self.random = random.Random(seed)
        self.told = 0

    def tell(self):
        self.told += 1
        return f"(tell 't{self.told})"

    def leaf(self, names):
        return self.random.choice([str(self.random.randint(-3, 9)), "none", "no", "'a", "'(1 2)", "k1", "k2", "n", "c", *names, *names])

    def thunk(self, depth, names):
        return "(fn () " + self.expression(depth, names) + ")"

    def guard(self, depth, names):
        inner = self.expression(depth, names) if self.random.random() < 0.4 else "0"
        return "(fn () (do " + self.tell() + " " + inner + "))"

    def expression(self, depth, names):
        if depth <= 0:
            return self.leaf(names)
        made = getattr(self, self.random.choice(self.SHAPES))
        return made(depth - 1, names)

    SHAPES = (["add", "say", "do", "do", "branch", "keep", "keep", "keep", "prompt", "prompt", "part", "part", "part"]
              + ["wind"] * 4 + ["caught", "caught", "again", "again", "again", "fail", "let", "count", "listed", "use", "put"])

    def add(self, depth, names):
        return f"(add {self.expression(depth, names)} {self.expression(depth, names)})"

    def say(self, depth, names):
        return f"(tell {self.expression(depth, names)})"

    def do(self, depth, names):
        return f"(do {self.tell()} {self.expression(depth, names)})"

    def branch(self, depth, names):
        return f"(if {self.expression(depth, names)} {self.expression(depth, names)} {self.expression(depth, names)})"

    def keep(self, depth, names):
        name = f"v{len(names)}"
        return f"(keep (fn ({name}) (do (set {self.random.choice(['k1', 'k2'])} {name}) {self.expression(depth, names + [name])})))"

    def prompt(self, depth, names):
        return f"(prompt {self.thunk(depth, names)})"

    def part(self, depth, names):
        name = f"v{len(names)}"
        return f"(part (fn ({name}) {self.expression(depth, names + [name])}))"

    def wind(self, depth, names):
        return f"(wind {self.guard(depth, names)} {self.thunk(depth, names)} {self.guard(depth, names)})"

    def caught(self, depth, names):
        name = f"v{len(names)}"
        return f"(try {self.thunk(depth, names)} (fn ({name}) (do (tell (list 'caught {name})) {self.expression(depth, names + [name])})))"

    def again(self, depth, names):
        return f"({self.random.choice(['k1', 'k2', *names])} {self.expression(depth, names)})"

    def fail(self, depth, names):
        return f"(fail {self.expression(depth, names)})"

    def let(self, depth, names):
        return f"(let ((w {self.expression(depth, names)})) (set w {self.expression(depth, names + ['w'])}) w)"

    def count(self, depth, names):
        return f"(when (less n 6) (set n (add n 1)) {self.expression(depth, names)})"

    def listed(self, depth, names):
        return "(list " + " ".join(self.expression(depth, names) for lap in range(3)) + ")"

    def use(self, depth, names):
        function = self.random.choice(["add", "list", "keep", "part", "k1"])
        return f"(use {function} (list {self.expression(depth, names)} {self.expression(depth, names)}))"

    def put(self, depth, names):
        return f"(put c {self.expression(depth, names)})"

    def text(self):
        forms = ["(def k1 none) (def k2 (fn (x) (tell x))) (def n 0) (def c (cell 0))"]
        for lap in range(self.random.randint(1, 4)):
            made = self.expression(self.random.randint(2, 6), [])
            if self.random.random() < 0.7:
                made = f"(try (fn () (prompt (fn () {made}))) (fn (d) (do (tell d) d)))"
            forms.append(made)
        forms.append(self.random.choice(["", "(set n (add n 1)) (if (less n 4) (k1 n) 'end)", "(tell (get c))"]))
        return "\n".join(forms)


class Keeper(Maker):
    """As Maker, but what is cut off is kept as well, to be called later on, from elsewhere."""

    def part(self, depth, names):
        name = f"v{len(names)}"
        kept = self.random.choice(["k1", "k2"])
        return f"(part (fn ({name}) (do (set {kept} {name}) {self.expression(depth, names + [name])})))"
