"""The document's plain rule, done another way: works are Python's generators, and runs are calls within calls.

It is slow, can't be copied, and is there for the tests alone.
"""


class Fault(Exception):
    def __init__(self, reason):
        Exception.__init__(self)
        self.reason = reason


class Given(Exception):
    pass


class Raised:
    """What a def raised, on its way out of turn."""

    def __init__(self, error):
        self.error = error


class Deed:
    """A work."""

    def __init__(self, number, name, script, told=None, pledge=None):
        self.number = number
        self.name = name
        self.script = script
        self.told = told
        self.pledge = pledge
        self.begun = False
        self.gives = 0
        self.gave = None
        self.steps = None
        # For stories: where it is, and what became of a cancel.
        self.waits_for = None
        self.cancelled = False
        self.due = False
        self.ended = False


class Vow:
    """A promise."""

    def __init__(self, number):
        self.number = number
        self.fate = ("open",)
        self.takers = []
        self.taken = False
        self.told = False
        self.story = None

    def is_settled(self):
        return self.fate[0] in ("kept", "broken")


class Plain:
    """A loop by the plain rule."""

    def __init__(self, ranks=3, patience=None, flood=100, deep=8, calls=None):
        self.ranks = ranks
        self.patience = patience or [None] * ranks
        self.flood = flood
        self.deep = deep
        self.calls = calls or {}
        self.clock = 0
        self.events = []
        self.works = [[] for _ in range(ranks)]
        self.skipped = [0] * ranks
        self.micros = []
        self.timers = []
        self.idles = []
        self.vows = []
        self.names = {}
        self.numbers = 0
        self.runs = 0
        self.count = 0
        self.flood_told = False
        self.broken_off = False
        self.going = self.go()

    # What the tests ask.

    def post(self, script, rank=0, name="work"):
        number = self.number()
        self.put(rank, Deed(number, name, script))
        return number

    def turn(self):
        ahead = self.broken_off
        if ahead:
            self.broken_off = False
            self.step()
        return self.step() or ahead

    def step(self):
        told = next(self.going)
        if isinstance(told, Raised):
            self.broken_off = True
            raise told.error
        return told

    def lines(self):
        return [[work.name for work in line] for line in self.works]

    def passes(self):
        return [skipped if line else None for skipped, line in zip(self.skipped, self.works)]

    def promise(self, name):
        return self.names[name].fate

    # Turns.

    def go(self):
        while True:
            told = yield from self.one_turn()
            yield told

    def tell(self, *parts):
        self.events.append((self.clock, *parts))

    def number(self):
        self.numbers += 1
        return self.numbers - 1

    def put(self, rank, work):
        if not self.works[rank]:
            self.skipped[rank] = 0
        self.works[rank].append(work)

    def fill(self):
        due = [(when, number, item) for when, number, item in self.timers if when <= self.clock]
        due += [(when, number, item) for when, number, item in self.idles if when is not None and when <= self.clock]
        for when, number, item in sorted(due, key=lambda row: row[:2]):
            told = None
            if (when, number, item) in self.idles:
                self.idles.remove((when, number, item))
            else:
                self.timers.remove((when, number, item))
            if item["gap"]:
                told = 0
                while when <= self.clock:
                    when += item["gap"]
                    told += 1
                self.timers.append((when, number, item))
            self.put(item["rank"], Deed(number, item["name"], item["script"], told))

    def choose(self):
        over = []
        for rank in range(self.ranks):
            patience = self.patience[rank]
            if self.works[rank] and patience is not None and self.skipped[rank] >= patience:
                over.append((patience - self.skipped[rank], rank))
        if over:
            return min(over)[1], "overdue"
        for rank in range(self.ranks):
            if self.works[rank]:
                return rank, "least"
        return None, None

    def one_turn(self):
        self.count = 0
        self.flood_told = False
        self.fill()
        if not any(self.works) and not self.idles and self.timers:
            ahead = self.clock
            self.clock = min(self.timers, key=lambda row: row[0])[0]
            self.tell("leap", ahead)
            self.fill()
        rank, why = self.choose()
        if rank is not None:
            work = self.works[rank].pop(0)
            for other in range(self.ranks):
                self.skipped[other] = self.skipped[other] + 1 if other != rank else 0
            self.tell("task", work.number, rank, why)
            yield from self.begin(work)
        elif self.idles:
            when, number, item = self.idles.pop(0)
            left = min([row[0] for row in self.timers]) - self.clock if self.timers else None
            self.tell("idle", number, left)
            yield from self.begin(Deed(number, item["name"], item["script"], left))
        elif not self.micros:
            return False
        yield from self.do_micros()
        return True

    def do_micros(self):
        while self.micros and self.count < self.flood:
            number, action = self.micros.pop(0)
            self.count += 1
            self.tell("micro", number)
            yield from action()
        if self.micros and not self.flood_told:
            self.flood_told = True
            self.tell("flood", len(self.micros))
        if not self.micros:
            for vow in sorted([vow for vow in self.vows if self.is_unhandled(vow)], key=lambda vow: vow.broke):
                vow.told = True
                self.tell("unhandled", vow.number)

    def is_unhandled(self, vow):
        return vow.fate[0] == "broken" and not vow.taken and not vow.told

    # Works.

    def begin(self, work, fate=None):
        work.begun = True
        fault = None
        if fate is not None and fate[0] == "kept":
            work.told = fate[1]
        elif fate is not None:
            fault = fate[1]
        if work.due:
            work.due = False
            fault = "cancel"
        yield from self.drive(work, fault)

    def drive(self, work, fault):
        """Do a work until it stays or ends."""
        if work.steps is None:
            work.steps = self.whole(work, fault)
            fault = None
        while True:
            try:
                asked = work.steps.throw(Fault(fault)) if fault is not None else next(work.steps)
            except StopIteration:
                return
            fault = None
            if asked == "stay":
                return
            if isinstance(asked, Raised):
                yield asked
                fault = "out"
                continue
            fate = yield from self.run(asked)
            if fate[0] == "kept":
                work.told = fate[1]
            else:
                fault = fate[1]

    def run(self, vow):
        self.tell("run", vow.number)
        self.take(vow)
        self.runs += 1
        yield from self.do_micros()
        while not vow.is_settled():
            yield True
            if not (yield from self.one_turn()):
                self.tell("stuck", vow.number)
                self.runs -= 1
                return ("broken", "stuck")
        self.tell("ran", vow.number)
        self.runs -= 1
        return vow.fate

    def whole(self, work, fault):
        try:
            if fault is not None:
                raise Fault(fault)
            yield from self.deeds(work, work.script)
            fate = ("kept", work.gave)
        except Given:
            fate = ("kept", work.gave)
        except Fault as error:
            fate = ("broken", error.reason)
        work.ended = True
        if work.pledge is not None:
            self.settle(work.pledge, fate)
        elif fate[0] == "broken":
            self.tell("fault", work.number, fate[1])

    def deeds(self, work, script):
        for deed in script:
            method = getattr(self, "do_" + deed[0])
            told = method(work, *deed[1:])
            if told is not None:
                yield from told

    # Deeds.

    def rank(self, rank):
        if rank >= self.ranks:
            raise Fault("rank")

    def find(self, name):
        if name not in self.names:
            raise Fault("unknown")
        return self.names[name]

    def make(self, name):
        self.names[name] = Vow(len(self.vows))
        self.vows.append(self.names[name])
        return self.names[name]

    def do_say(self, work, word):
        self.tell("said", word)

    def do_echo(self, work):
        self.tell("said", work.told)

    def do_spend(self, work, many):
        self.clock += many

    def do_post(self, work, rank, name, script):
        self.rank(rank)
        self.put(rank, Deed(self.number(), name, script))

    def do_micro(self, work, script):
        self.put_micro(Deed(self.number(), None, script))

    def put_micro(self, work, fate=None):
        self.micros.append((work.number, lambda: self.begin(work, fate)))

    def do_after(self, work, many, rank, name, script):
        self.rank(rank)
        item = {"gap": None, "rank": rank, "name": name, "script": script}
        self.timers.append((self.clock + many, self.number(), item))

    def do_every(self, work, gap, rank, name, script):
        self.rank(rank)
        item = {"gap": gap, "rank": rank, "name": name, "script": script}
        self.timers.append((self.clock + gap, self.number(), item))

    def do_idle(self, work, many, name, script):
        item = {"gap": None, "rank": self.ranks - 1, "name": name, "script": script}
        self.idles.append((None if many is None else self.clock + many, self.number(), item))

    def pick(self, name):
        picked = []
        for rank in range(self.ranks):
            line = self.works[rank]
            meant = [work for work in line if work.name == name and not work.begun]
            if meant and line[0] is meant[0]:
                self.skipped[rank] = 0
            self.works[rank] = [work for work in line if work not in meant]
            picked += meant
        return picked

    def do_stop(self, work, name):
        many = len(self.pick(name))
        for rows in (self.timers, self.idles):
            for row in list(rows):
                if row[2]["name"] == name:
                    rows.remove(row)
                    many += 1
        work.told = many

    def do_rerank(self, work, name, rank):
        self.rank(rank)
        picked = self.pick(name)
        for other in picked:
            self.put(rank, other)
        work.told = len(picked)

    def do_make(self, work, name):
        self.make(name)

    def do_keep(self, work, name, worth):
        self.settle(self.find(name), ("kept", worth))

    def do_pass(self, work, name):
        self.settle(self.find(name), ("kept", work.told))

    def do_break(self, work, name, reason):
        self.settle(self.find(name), ("broken", reason))

    def settle(self, vow, fate):
        if vow.fate != ("open",):
            self.tell("again", vow.number)
        else:
            self.settle_now(vow, fate)

    def settle_now(self, vow, fate):
        vow.fate = fate
        vow.broke = len(self.events)
        self.tell(fate[0], vow.number, fate[1])
        for taker in vow.takers:
            taker(fate)

    def take(self, vow):
        if vow.told and not vow.taken:
            self.tell("late", vow.number)
        vow.taken = True

    def behind(self, vow, taker):
        self.take(vow)
        if vow.is_settled():
            taker(vow.fate)
        else:
            vow.takers.append(taker)

    def do_follow(self, work, name, other):
        vow, source = self.find(name), self.find(other)
        if vow.fate != ("open",):
            self.tell("again", vow.number)
            return
        end = source
        while end is not vow and end.fate[0] == "follows":
            end = self.vows[end.fate[1]]
        if end is vow:
            self.settle_now(vow, ("broken", "ring"))
            return
        if not source.is_settled():
            vow.fate = ("follows", source.number)
        self.behind(source, lambda fate: self.settle_now(vow, fate))

    def do_then(self, work, name, other, kept, broken):
        vow = self.find(name)
        made = self.make(other)
        number = self.number()

        def taker(fate):
            script = kept if fate[0] == "kept" else broken
            if script is None:
                self.micros.append((number, lambda: self.alone(self.settle, made, fate)))
            else:
                self.put_micro(Deed(number, None, script, fate[1], made))

        self.behind(vow, taker)

    def alone(self, action, *parts):
        """A micro that does just one thing, as a generator."""
        action(*parts)
        yield from ()

    def several(self, word, made, names):
        vows = [self.find(name) for name in names]
        vow = self.make(made)
        number = self.number()
        fates = [None] * len(vows)
        if not vows and word != "first":
            self.settle(vow, ("broken" if word == "any" else "kept", ()))

        def come(place, fate):
            fates[place] = fate
            if vow.fate == ("open",):
                outcome = self.outcome(word, fates, fate)
                if outcome is not None:
                    self.settle(vow, outcome)

        for place, source in enumerate(vows):
            def taker(fate, place=place):
                self.micros.append((number, lambda: self.alone(come, place, fate)))
            self.behind(source, taker)

    def outcome(self, word, fates, fate):
        if word == "first":
            return fate
        if word == "all" and fate[0] == "broken" or word == "any" and fate[0] == "kept":
            return fate
        if None in fates:
            return None
        told = tuple(fates) if word == "each" else tuple([worth for _, worth in fates])
        if depth_of(told) > 4:
            return ("broken", "deep")
        return ("broken" if word == "any" else "kept", told)

    def do_all(self, work, made, names):
        self.several("all", made, names)

    def do_any(self, work, made, names):
        self.several("any", made, names)

    def do_first(self, work, made, names):
        self.several("first", made, names)

    def do_each(self, work, made, names):
        self.several("each", made, names)

    def do_give(self, work, worth):
        work.gave = worth
        work.gives += 1
        raise Given()

    def do_fail(self, work, reason):
        raise Fault(reason)

    def do_guard(self, work, script, second, last):
        behind = None
        gives = work.gives
        try:
            yield from self.deeds(work, script)
        except Given as error:
            behind = error
        except Fault as error:
            behind = error
        if isinstance(behind, Fault) and second is not None:
            work.told = behind.reason
            # Where the fault is one of a last part behind a give, all else is left undone still.
            behind = Given() if work.gives > gives else None
            try:
                yield from self.deeds(work, second)
            except (Fault, Given) as error:
                behind = error
        # A fault or a give in the last part goes on in the place of what is behind it.
        yield from self.deeds(work, last)
        if behind is not None:
            raise behind

    def do_if(self, work, name, script, other):
        kept = self.find(name).fate[0] == "kept"
        yield from self.deeds(work, script if kept else other)

    def check_cancel(self, work):
        if work.due:
            work.due = False
            raise Fault("cancel")

    def do_wait(self, work, name):
        self.check_cancel(work)
        vow = self.find(name)

        def taker(fate):
            work.waits_for = None
            self.put_micro(work, fate)

        if not vow.is_settled():
            work.waits_for = (vow, taker)
        self.behind(vow, taker)
        yield "stay"

    def do_run(self, work, name):
        vow = self.find(name)
        if self.runs >= self.deep:
            raise Fault("deep")
        yield vow

    def do_story(self, work, made, script):
        vow = self.make(made)
        vow.story = Deed(self.number(), None, script, None, vow)
        self.put_micro(vow.story)

    def do_cancel(self, work, name):
        story = self.find(name).story
        if story is None:
            raise Fault("unknown")
        if story.cancelled or story.ended:
            return
        story.cancelled = True
        if story.waits_for is None:
            story.due = True
            return
        vow, taker = story.waits_for
        vow.takers.remove(taker)
        taker(("broken", "cancel"))

    def do_yield(self, work, rank):
        self.check_cancel(work)
        self.rank(rank)
        self.put(rank, work)
        yield "stay"

    def do_call(self, work, word):
        if word not in self.calls:
            raise Fault("unknown")
        script = None
        error = None
        try:
            script = self.calls[word](work.told)
        except BaseException as raised:
            error = raised
        if error is not None:
            yield Raised(error)
        # The tests' defs tell scripts, or None.
        if script is None:
            raise Fault("call")
        yield from self.deeds(work, script)


def depth_of(worth):
    if not isinstance(worth, tuple):
        return 0
    return 1 + max([depth_of(part) for part in worth], default=0)
