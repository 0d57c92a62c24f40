"""Sections 10 to 13 once more, word by word, to hold machines against: slow, with a store in which each THING has a
number, and chains that are written out.

A worth is an integer, a string, ("!", name) for a primitive, or ("#", number) for a THING. A chain is a tuple of
(piece's number, how many of its frames count), the oldest one first; frames are tuples of their word and what they hold.
"""

from keptagain.compiling import bodies, coded
from keptagain.data import Pair
from keptagain.printing import full_text
from keptagain.reading import datum_in

from plain import WANTED, WORDS

PLAIN = ("yes", "no", "none", "()")
# Where worths, chains and deeds stand in frames.
FRAME = {"call": ("n", "n", "W", "W", "W"), "forms": ("n",), "prompt": (), "try": ("w",), "winding": ("w", "w", "w"),
         "wind": ("n", "w", "w"), "wound": ("w",), "going": ("c", "d"), "entering": ("n", "c", "d")}


class Fault(Exception):
    def __init__(self, datum):
        self.datum = datum


class Rowwise:
    def __init__(self, program, inputs=()):
        self.program, self.inputs = program, [datum_in(text) for text in inputs]
        self.store, self.next, self.cells = {}, 0, {}
        self.frames, self.below = {}, {}
        self.bodies = bodies(program)
        self.begins = [at for at, body in enumerate(self.bodies) if body[0] == "form"]
        self.rows_of = [[self.row(text) for text in texts] for texts in coded(program)]
        self.quoted = list(self.store)
        self.top = {name: ("!", name) for name in WANTED}
        self.told, self.turns, self.rows, self.marks, self.ending = [], 0, 0, 0, None
        self.live, self.chain, self.running, self.now = [("forms", 0)], (), None, ("hand", "none")

    # The store.

    def new(self, *held):
        self.store[self.next] = held
        self.next += 1
        return ("#", self.next - 1)

    def made(self, datum):
        """A datum that was read, in the store: a pair ahead of those in its head, and these ahead of its tail's."""
        if not isinstance(datum, Pair):
            return datum
        worth = self.new()
        head = self.made(datum.head)
        self.store[worth[1]] = ("pair", head, self.made(datum.tail))
        return worth

    def listed(self, worths):
        datum = "()"
        for worth in reversed(worths):
            datum = self.new("pair", worth, datum)
        return datum

    def held(self, worth):
        return self.store[worth[1]] if isinstance(worth, tuple) and worth[0] == "#" else ()

    def kind(self, worth):
        if isinstance(worth, int):
            return "number"
        if isinstance(worth, str):
            return WORDS.get(worth, "symbol")
        if worth[0] == "!":
            return "fn"
        return {"whole": "rest", "part": "rest"}.get(self.held(worth)[0], self.held(worth)[0])

    def things(self, worth):
        found = []
        while self.kind(worth) == "pair":
            found.append(self.held(worth)[1])
            worth = self.held(worth)[2]
        return found, worth

    def shown(self, worth):
        if isinstance(worth, (int, str)):
            return str(worth)
        if self.kind(worth) != "pair":
            return "#" + self.kind(worth)
        things, tail = self.things(worth)
        text = "(" + " ".join(self.shown(thing) for thing in things)
        return text + (")" if tail == "()" else " . " + self.shown(tail) + ")")

    def printed(self, worth):
        text = self.shown(worth)
        return text if len(text) <= 2000 else "#long"

    # What it tells.

    def depth(self):
        return len(self.live) + sum(count for _, count in self.chain)

    def frame(self, number):
        waiting = [frame for piece, count in self.chain for frame in self.frames[piece][:count]] + self.live
        frame = self.running if number == 0 else waiting[-number]
        if frame is None or frame[0] == "forms":
            return frame
        if frame[0] != "call":
            return (frame[0],)
        return (*frame[:3], *[tuple(self.printed(worth) for worth in worths) for worths in frame[3:]])

    def tells(self):
        """All that section 10 lets a machine tell."""
        return {"told": tuple(self.told), "turns": self.turns, "rows": self.rows, "ending": self.ending,
                "depth": self.depth(), "live": len(self.live), "things": len(self.store),
                "pieces": tuple(count for _, count in reversed(self.chain)),
                "frames": [self.frame(number) for number in range(self.depth() + 1)]}

    # Rows.

    def row(self, text):
        word, _, behind = text.partition(" ")
        if word == "const":
            return (word, self.made(datum_in(behind)))
        return (word, *[int(part) if part.isdigit() else part for part in behind.split(" ") if part])

    def step(self):
        self.rows += 1
        if self.running is not None:
            _, body, row, taken, own, pile = self.running
            word, *behind = self.rows_of[body][row]
            frame = ["call", body, row + 1, taken, list(own), list(pile)]
            try:
                self.body_row(word, behind, frame)
            except Fault as fault:
                self.faulted(fault.datum)
            return word
        word, *about = self.now
        try:
            {"hand": self.come, "make": self.call, "go": self.go}[word](*about)
        except Fault as fault:
            self.faulted(fault.datum)
        return word

    def body_row(self, word, behind, frame):
        _, body, row, taken, own, pile = frame
        at = behind[0] if behind else None
        if word in ("call", "end-call"):
            function, *worths = pile[len(pile) - at - 1:]
            del pile[len(pile) - at - 1:]
            if word == "call":
                self.live.append(("call", body, row, taken, tuple(own), tuple(pile)))
            self.running = None
            return self.call(function, worths)
        if word == "back":
            self.running, self.now = None, ("hand", pile.pop())
            return None
        if word in ("global", "set-global") and at not in self.top:
            raise Fault("nobody")
        if word == "const":
            pile.append(at)
        elif word in ("local", "taken"):
            pile.append({"local": own, "taken": taken}[word][at])
        elif word in ("local-cell", "taken-cell"):
            pile.append(self.held({"local": own, "taken": taken}[word[:-5]][at])[1])
        elif word == "global":
            pile.append(self.top[at])
        elif word == "box":
            own[at] = self.new("cell", own[at])
        elif word in ("set-local", "set-taken"):
            self.store[{"local": own, "taken": taken}[word[4:]][at][1]] = ("cell", pile.pop())
            pile.append("none")
        elif word in ("set-global", "def"):
            self.top[at] = pile.pop()
            pile.append("none")
        elif word == "close":
            many = len(pile) - behind[1]
            held = tuple(pile[many:])
            del pile[many:]
            pile.append(self.new("fn", at, held))
        elif word == "drop":
            pile.pop()
        elif word == "jump" or (word == "unless" and pile.pop() == "no"):
            row = at
        self.running = ("call", body, row, taken, tuple(own), tuple(pile))
        return None

    def come(self, worth):
        if self.live:
            word, *holds = self.live.pop()
        else:
            piece, count = self.chain[-1]
            self.chain = self.chain[:-1] + (((piece, count - 1),) if count > 1 else ())
            word, *holds = self.frames[piece][count - 1]
        if word == "call":
            body, row, taken, own, pile = holds
            self.running = ("call", body, row, taken, own, pile + (worth,))
        elif word == "forms" and holds[0] == len(self.begins):
            self.ending, self.now = ("ended", self.printed(worth)), ("ended",)
        elif word == "forms":
            self.live.append(("forms", holds[0] + 1))
            self.running = ("call", self.begins[holds[0]], 0, (), (), ())
        elif word in ("prompt", "try"):
            self.now = ("hand", worth)
        elif word == "winding":
            self.live.append(("wind", self.mark(), holds[0], holds[2]))
            self.call(holds[1], [])
        elif word == "wind":
            self.live.append(("wound", worth))
            self.call(holds[2], [])
        elif word == "wound":
            self.now = ("hand", holds[0])
        elif word == "going":
            self.now = ("go", *holds)
        else:
            mark, goal, deed = holds
            self.chain = [chain for chain, found in self.winds(goal) if found == mark][0]
            self.now = ("go", goal, deed)

    def mark(self):
        self.marks += 1
        return self.marks - 1

    def winds(self, chain):
        """All winds of chain, the oldest one first: the chain that has it as its newest frame, and its mark."""
        return [(chain[:at] + ((piece, place + 1),), self.frames[piece][place][1])
                for at, (piece, count) in enumerate(chain) for place in range(count)
                if self.frames[piece][place][0] == "wind"]

    def newest(self, chain):
        piece, count = chain[-1]
        return self.frames[piece][count - 1]

    def under(self, chain):
        piece, count = chain[-1]
        return chain[:-1] + (((piece, count - 1),) if count > 1 else ())

    def seal(self):
        if self.live:
            self.chain = self.laid(self.live, self.chain)
            self.live = []

    def laid(self, frames, chain):
        piece = len(self.frames)
        self.frames[piece], self.below[piece] = tuple(frames), chain
        return chain + ((piece, len(frames)),)

    def go(self, goal, deed):
        self.seal()
        here, there = self.winds(self.chain), self.winds(goal)
        for chain, mark in reversed(here):
            if mark not in [found for _, found in there]:
                leave = self.newest(chain)[3]
                self.chain, self.live = self.under(chain), [("going", goal, deed)]
                return self.call(leave, [])
        for chain, mark in there:
            if mark not in [found for _, found in here]:
                enter = self.newest(chain)[2]
                self.chain, self.live = self.under(chain), [("entering", mark, goal, deed)]
                return self.call(enter, [])
        self.chain = goal
        if deed[0] == "give":
            self.now = ("hand", deed[1])
            return None
        return self.call(deed[1], list(deed[2:]))

    def faulted(self, datum):
        self.running = None
        waiting = [frame[0] for piece, count in self.chain for frame in self.frames[piece][:count]]
        if "try" not in waiting + [frame[0] for frame in self.live]:
            self.ending, self.now = ("fault", self.printed(datum)), ("ended",)
            return
        self.seal()
        chain = self.chain
        while self.newest(chain)[0] != "try":
            chain = self.under(chain)
        self.now = ("go", self.under(chain), ("call", self.newest(chain)[1], datum))

    # Calls.

    def call(self, function, worths):
        self.turns += 1
        held = self.held(function)
        if isinstance(function, tuple) and function[0] == "!":
            return self.primitive(function[1], worths)
        if not held or held[0] not in ("fn", "whole", "part"):
            raise Fault("call")
        if held[0] == "fn":
            kind, _, names, _, _ = self.bodies[held[1]]
            if kind == "fn" and len(names) != len(worths):
                raise Fault("many")
            own = (self.listed(worths),) if kind == "rest" else tuple(worths)
            self.running = ("call", held[1], 0, held[2], own, ())
            return None
        if len(worths) != 1:
            raise Fault("many")
        self.now = ("go", held[1] if held[0] == "whole" else self.put_upon(held[1]), ("give", worths[0]))
        return None

    def put_upon(self, ranges):
        self.live.append(("prompt",))
        self.seal()
        goal = self.chain
        for piece, low, count in ranges:
            frames = [(frame[0], self.mark(), *frame[2:]) if frame[0] == "wind" else frame
                      for frame in self.frames[piece][low:count]]
            goal = self.laid(frames, goal)
        return goal

    def primitive(self, name, worths):
        if WANTED[name] not in (None, len(worths)):
            raise Fault("many")
        worth = getattr(self, "call_" + name)(*worths)
        if worth is not None:
            self.now = ("hand", worth)

    def need(self, kind, *worths):
        for worth in worths:
            if self.kind(worth) != kind:
                raise Fault("kind")

    def reckoned(self, action, left, right):
        self.need("number", left, right)
        if abs(action(left, right)) > 10 ** 1000:
            raise Fault("great")
        return action(left, right)

    def call_add(self, left, right):
        return self.reckoned(lambda left, right: left + right, left, right)

    def call_sub(self, left, right):
        return self.reckoned(lambda left, right: left - right, left, right)

    def call_mul(self, left, right):
        return self.reckoned(lambda left, right: left * right, left, right)

    def parted(self, at, left, right):
        self.need("number", left, right)
        if right == 0:
            raise Fault("nought")
        return divmod(left, right)[at]

    def call_quo(self, left, right):
        return self.parted(0, left, right)

    def call_rem(self, left, right):
        return self.parted(1, left, right)

    def call_less(self, left, right):
        self.need("number", left, right)
        return "yes" if left < right else "no"

    def call_same(self, left, right):
        return "yes" if left == right else "no"

    def call_not(self, worth):
        return "yes" if worth == "no" else "no"

    def call_pair(self, head, tail):
        return self.new("pair", head, tail)

    def parted_pair(self, at, worth):
        if worth == "()":
            raise Fault("empty")
        self.need("pair", worth)
        return self.held(worth)[at]

    def call_head(self, worth):
        return self.parted_pair(1, worth)

    def call_tail(self, worth):
        return self.parted_pair(2, worth)

    def call_list(self, *worths):
        return self.listed(worths)

    def call_kind(self, worth):
        return self.kind(worth)

    def call_cell(self, worth):
        return self.new("cell", worth)

    def call_get(self, cell):
        self.need("cell", cell)
        return self.held(cell)[1]

    def call_put(self, cell, worth):
        self.need("cell", cell)
        self.store[cell[1]] = ("cell", worth)
        return "none"

    def call_tell(self, worth):
        self.told.append(self.printed(worth))
        return "none"

    def call_ask(self):
        return self.made(self.inputs.pop(0)) if self.inputs else "none"

    def call_fail(self, worth):
        raise Fault(worth)

    def call_use(self, function, listed):
        worths, tail = self.things(listed)
        self.need("empty", tail)
        self.now = ("make", function, worths)

    def call_keep(self, function):
        self.seal()
        self.now = ("make", function, [self.new("whole", self.chain)])

    def call_prompt(self, function):
        self.live.append(("prompt",))
        self.now = ("make", function, [])

    def call_part(self, function):
        waiting = [frame[0] for piece, count in self.chain for frame in self.frames[piece][:count]]
        if "prompt" not in waiting + [frame[0] for frame in self.live]:
            raise Fault("outside")
        self.seal()
        chain, ranges = self.chain, []
        while self.newest(chain)[0] != "prompt":
            piece, count = chain[-1]
            low = count
            while low > 0 and self.frames[piece][low - 1][0] != "prompt":
                low -= 1
            ranges.insert(0, (piece, low, count))
            chain = chain[:-1] + (((piece, low),) if low > 0 else ())
        self.now = ("go", chain, ("call", function, self.new("part", tuple(ranges))))

    def call_wind(self, enter, body, leave):
        self.live.append(("winding", enter, body, leave))
        self.now = ("make", enter, [])

    def call_try(self, function, handler):
        self.live.append(("try", handler))
        self.now = ("make", function, [])

    # What is held on to.

    def come_to(self):
        """The numbers of all THINGS that can be come to, and for each piece the frames that are held on to."""
        worths, frames, reached, cut = [], [], {}, {}
        chains = [self.chain]
        worths.extend(self.top.values())
        worths.extend(("#", number) for number in self.quoted)
        frames.extend(self.live + ([self.running] if self.running else []))
        if self.running is None and self.now[0] == "go":
            chains.append(self.now[1])
            worths.extend(self.now[2][1:])
        elif self.running is None:
            worths.extend(self.now[1:2])
            worths.extend(self.now[2] if self.now[0] == "make" else ())
        seen, seen_frames = {}, set()
        while worths or frames or chains:
            if worths:
                worth = worths.pop()
                if not isinstance(worth, tuple) or worth[0] != "#" or worth[1] in seen:
                    continue
                seen[worth[1]] = True
                kind, *held = self.held(worth)
                if kind in ("pair", "cell"):
                    worths.extend(held)
                elif kind == "fn":
                    worths.extend(held[1])
                elif kind == "whole":
                    chains.append(held[0])
                else:
                    for piece, low, count in held[0]:
                        cut.setdefault(piece, []).append((low, count))
                        frames.extend(self.frames[piece][low:count])
            elif frames:
                frame = frames.pop()
                if frame in seen_frames:
                    continue
                seen_frames.add(frame)
                for sort, held in zip(FRAME[frame[0]], frame[1:]):
                    worths.extend([held] if sort == "w" else held if sort == "W" else held[1:] if sort == "d" else [])
                    chains.extend([held] if sort == "c" else [])
            else:
                for piece, count in chains.pop():
                    if reached.get(piece, 0) < count:
                        reached[piece] = count
                        frames.extend(self.frames[piece][:count])
        return seen, reached, cut

    def held_on_to(self):
        return len(self.come_to()[0])

    def collect(self):
        seen = self.come_to()[0]
        gone = len(self.store) - len(seen)
        self.store = {number: held for number, held in self.store.items() if number in seen}
        return gone

    # Images.

    def image(self):
        _, self.reached, self.cut = self.come_to()
        self.numbers = {("#", number): at for at, number in enumerate(self.quoted)}
        self.coming = []
        text = self.program.text.split("\n")
        left = [full_text(datum) for datum in self.inputs]
        lines = ["image", "text %d" % len(text), *text, "inputs %d" % len(left), *left, "told %d" % len(self.told),
                 *self.told, "turns %d" % self.turns, "rows %d" % self.rows, "marks %d" % self.marks,
                 "ending " + ("on" if self.ending is None else " ".join(self.ending))]
        names = sorted(name for name in self.top if self.top[name] != ("!", name))
        lines += ["globals %d" % len(names)] + [name + " " + self.word(self.top[name]) for name in names]
        if self.running is not None:
            lines += ["now run", self.frame_line(self.running)]
        elif self.now[0] == "go":
            lines.append("now go " + self.chain_words(self.now[1]) + " " + self.deed_words(self.now[2]))
        elif self.now[0] == "make":
            lines.append(" ".join(["now make", self.word(self.now[1])] + [self.word(worth) for worth in self.now[2]]))
        else:
            lines.append(" ".join(["now " + self.now[0]] + [self.word(worth) for worth in self.now[1:]]))
        lines += ["live %d" % len(self.live)] + [self.frame_line(frame) for frame in self.live[::-1]]
        lines.append("chain " + self.chain_words(self.chain))
        for told in self.coming:
            lines += self.lines_of(told)
        return "\n".join(lines)

    def number(self, told):
        if told not in self.numbers:
            self.numbers[told] = len(self.numbers)
            self.coming.append(told)
        return "#%d" % self.numbers[told]

    def word(self, worth):
        if isinstance(worth, int) or worth in PLAIN:
            return str(worth)
        if isinstance(worth, str):
            return "'" + worth
        return "!" + worth[1] if worth[0] == "!" else self.number(worth)

    def chain_words(self, chain):
        if not chain:
            return "none"
        return "%s %d" % (self.number(("piece", chain[-1][0])), chain[-1][1])

    def deed_words(self, deed):
        return " ".join([deed[0]] + [self.word(worth) for worth in deed[1:]])

    def frame_line(self, frame):
        words = [frame[0]]
        for sort, held in zip(FRAME[frame[0]], frame[1:]):
            if sort == "W":
                words += ["|"] + [self.word(worth) for worth in held]
            else:
                say = {"n": str, "w": self.word, "c": self.chain_words, "d": self.deed_words}[sort]
                words.append(say(held))
        return " ".join(words)

    def lines_of(self, told):
        if told[0] == "piece":
            return self.piece_lines(told[1])
        kind, *held = self.held(told)
        if kind == "fn":
            return [" ".join(["fn", str(held[0])] + [self.word(worth) for worth in held[1]])]
        if kind == "whole":
            return ["rest " + self.chain_words(held[0])]
        if kind == "part":
            return [" ".join(["part"] + ["%s %d %d" % (self.number(("piece", piece)), low, count)
                                         for piece, low, count in reversed(held[0])])]
        return [" ".join([kind] + [self.word(worth) for worth in held])]

    def piece_lines(self, piece):
        reached, cut = self.reached.get(piece, 0), self.cut.get(piece, [])
        many = max([reached] + [count for _, count in cut])
        below = self.chain_words(self.below[piece]) if reached else "none"
        lines = ["piece %s %d" % (below, many)]
        for at in reversed(range(many)):
            has = at < reached or any(low <= at < count for low, count in cut)
            lines.append(self.frame_line(self.frames[piece][at]) if has else "-")
        return lines
