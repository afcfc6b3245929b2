"""The tests' one helper: wrong things, and machines that many tests use."""

import itertools

from cutrestore.cuts import orphans_of
from cutrestore.machines import Machine
from cutrestore.nets import Net
from cutrestore.runs import Run, played_run

BIG = 10 ** 59

# Things of all kinds that are no value, no deed, no machine, no way, no text of one.
WRONG_THINGS = [
    None, True, False, 0, 1, -1, 10 ** 59, "", "is", "drop", "letter", "7; 1 0; ", b"", b"letter", b"7; 1 0; ",
    [], (), {}, {"is": 1}, set(), [1], (1,), (None,), (True,), ((),), ([],), ({},), ("",), ("is",), ("number",),
    ("IS", 1), ("is", 1, 2), ("is", "1"), ("is", None), ("is", True), ("is", False), ("is", [1]), ("is", (1,)),
    ("is", ("is", 1)), (("is", 1),), (("letter",),), [("letter",)], ["is", 1], ["number", 0], ["letter"], ["way"],
    ["first"], ["drop"], ("letter", 0), ("letter", None), ("way", 0), ("first", 0), ("first", ()), ("Letter",),
    ("letter ",), (b"letter",), (b"is", 1), ("number", "0"), ("number", True), ("number", False), ("number", None),
    ("number", (0,)), ("number", [0]), ("number", -1), ("number", 4), ("number", 10 ** 59), ("number", 0, 0),
    ("n0",), ("word", 1), ("numbers", 0), ("is", {}), ("is", b"1"), object(), range(3), {"a", "b"}, lambda: 1,
]

# Lists of lists that are no points of two machines with three events each.
WRONG_POINTS = [
    [], [[0]], [[0], [0], [0]], [[], [0]], [[0], []], [[], []], [[[0]], [0]], [[1, 0], [0]], [[0], [0, 2, 1]],
    [[0, 0], [0]], [[0], [0, 1, 1]], [[0], [1, 1]], [[-1], [0]], [[0], [-1, 0]], [[0, 4], [0]], [[0], [0, 4]],
    [[0], [4]], [[BIG], [0]], [[0], [-BIG, 0]], [[0], [0, 1, 2, 3, 4]], [[3, 2, 1, 0], [0]], [[0, 2, 2, 3], [0]],
    [[10 ** 60 - 1], [10 ** 60 - 1]], [[0, BIG], [0, BIG]],
]


def counter(modulus=7, first=0, sends=1):
    """A machine that adds each letter to its number, sends it on and says it."""
    deeds = [("add", 0, ("letter",))]
    deeds += [("send", j, ("number", 0)) for j in range(sends)]
    return Machine(modulus, [first], [], deeds + [("say", ("number", 0))])


def copied(thing):
    """The same lists, tuples and dicts again, to see later whether a thing was changed."""
    if isinstance(thing, (list, tuple)):
        return type(thing)([copied(part) for part in thing])
    return thing


def random_value(chance, many):
    """Any value, by a source of chance that the test has set."""
    number = chance.choice([0, 1, -1, 5, -10 ** 59, chance.randrange(-10 ** 60 + 1, 10 ** 60)])
    return chance.choice([("is", number), ("number", chance.randrange(many)), ("letter",), ("way",), ("first",)])


def random_deed(chance, many):
    """Any deed."""
    word = chance.choice(["set", "add", "times", "put", "drop", "send", "send", "say", "skip"])
    value = random_value(chance, many)
    if word in ("set", "add", "times"):
        return (word, chance.randrange(many), value)
    if word == "drop":
        return (word,)
    if word == "send":
        return (word, chance.randrange(4), value)
    if word == "skip":
        return (word, value, random_value(chance, many), chance.choice([1, 2, 3, 24]))
    return (word, value)


def random_machine(chance):
    """Any machine."""
    modulus = chance.choice([2, 3, 7, 1000, 10 ** 12])
    numbers = [chance.randrange(modulus) for i in range(chance.randrange(1, 5))]
    row = [chance.randrange(modulus) for i in range(chance.choice([0, 0, 1, 3, 12]))]
    deeds = [random_deed(chance, len(numbers)) for i in range(chance.choice([0, 1, 4, 8, 24]))]
    return Machine(modulus, numbers, row, deeds)


def random_net(chance):
    """Any net that has a way and a first letter."""
    many = chance.randrange(1, 6)
    machines = [random_machine(chance) for m in range(many)]
    ends = [(chance.randrange(many), chance.randrange(many)) for way in range(chance.randrange(1, 11))]
    ways = [(source, goal, chance.choice(["row", "heap"])) for source, goal in ends]
    letters = [(chance.randrange(len(ways)), chance.randrange(-99, 99)) for i in range(chance.randrange(1, 21))]
    return Net(machines, ways, letters)


def two_counters(sort="row"):
    """Two counters that send to one another, with three letters for the one and one for the other."""
    ways = [(0, 1, sort), (1, 0, sort)]
    return Net([counter(10), counter(100, 50)], ways, [(1, 3), (1, 4), (0, 8), (1, -1)])


def all_told(run):
    """All that is told of a run."""
    net = run.net()
    told = [run.schedule()]
    for m in range(len(net.machines())):
        told += [run.count(m), run.state(m), run.words(m)]
        for c in range(run.count(m) + 1):
            told += [run.state_behind(m, c), run.words_behind(m, c)]
    for way in range(len(net.ways())):
        told += [run.lying(way), run.put_many(way)]
        for number in range(run.put_many(way)):
            told += [run.said(way, number), run.sent_by(way, number), run.worked_by(way, number)]
    return told


def picks_that_may_be(run):
    """The picks that a run would not refuse."""
    picks = []
    for way, (source, goal, sort) in enumerate(run.net().ways()):
        lying = [(way, number) for number, said in run.lying(way)]
        picks += lying if sort == "heap" else lying[:1]
    return picks


def pick_any(chance, live):
    """Do any pick of a run or a live net that a run would not refuse, where there is one."""
    picks = picks_that_may_be(live if isinstance(live, Run) else live.run())
    if picks:
        live.pick(*chance.choice(picks))


def plain_worth(value, numbers, row, place, said):
    """What a value is, by the plain words of [5]."""
    worths = {"letter": said, "way": place, "first": row[0] if row else 0}
    if value[0] == "number":
        return numbers[value[1]]
    return value[1] if value[0] == "is" else worths[value[0]]


def plain_worked(machine, numbers, row, place, said):
    """Do a machine's deeds, by the plain words of [6], to lists: the letters sent and the words."""
    sent, words, left_out = [], [], 0
    for deed in machine.deeds():
        if left_out:
            left_out -= 1
            continue
        worths = [plain_worth(part, numbers, row, place, said) % machine.modulus()
                  for part in deed if isinstance(part, tuple)]
        if deed[0] in ("set", "add", "times"):
            old = numbers[deed[1]]
            new = {"set": worths[0], "add": old + worths[0], "times": old * worths[0]}[deed[0]]
            numbers[deed[1]] = new % machine.modulus()
        elif deed[0] == "put":
            row[:] = row if len(row) == 12 else row + worths
        elif deed[0] == "drop":
            row[:] = row[1:]
        elif deed[0] == "send":
            sent.append((deed[1], worths[0]))
        elif deed[0] == "say":
            words.append(worths[0])
        elif worths[0] < worths[1]:
            left_out = deed[3]
    return sent, words


def plainly_played(net, schedule):
    """The states, the words and the letters that lie there behind a schedule, by a player of the tests' own."""
    states = [(list(machine.first_state()[0]), list(machine.first_state()[1])) for machine in net.machines()]
    words = [[] for machine in net.machines()]
    lying, put = [{} for way in net.ways()], [0 for way in net.ways()]
    letters = net.letters()
    for pick in [None] + schedule:
        if pick is not None:
            way, number = pick
            m = net.ways()[way][1]
            place = [one for one in range(len(lying)) if net.ways()[one][1] == m].index(way)
            sent, said = plain_worked(net.machines()[m], *states[m], place, lying[way].pop(number))
            words[m] += said
            out = [one for one in range(len(lying)) if net.ways()[one][0] == m]
            letters = [(out[j], worth) for j, worth in sent if j < len(out)]
        for way, said in letters:
            lying[way][put[way]] = said
            put[way] += 1
    states = [(tuple(numbers), tuple(row)) for numbers, row in states]
    return states, words, [sorted(letters.items()) for letters in lying]


def random_run(chance, many):
    """A run of any net, with at most so many events."""
    run = Run(random_net(chance))
    for turn in range(many):
        pick_any(chance, run)
    return run


def lively_net(chance, most=4, first=6, sorts=("row", "heap")):
    """A net of counters in a ring, with ways beside it, so that its runs go on for long."""
    many = chance.choice([1] + list(range(2, most + 1)) * 3)
    ends = [(m, (m + 1) % many) for m in range(many)]
    ends += [(chance.randrange(many), chance.randrange(many)) for i in range(chance.randrange(0, 4))]
    chance.shuffle(ends)
    ways = [(source, goal, chance.choice(sorts)) for source, goal in ends]
    letters = [(chance.randrange(len(ways)), chance.randrange(50)) for i in range(chance.randrange(1, first + 1))]
    return Net([counter(97, m, chance.randrange(1, 4)) for m in range(many)], ways, letters)


def lively_run(chance, many, most=4, first=6):
    """A run of a lively net, with so many events if it can have them."""
    run = Run(lively_net(chance, most, first))
    for turn in range(many):
        pick_any(chance, run)
    return run


def crossing_run(many):
    """Two machines whose events, so many of each, all hang on one of each of the row before."""
    net = Net([counter(97), counter(97)], [(0, 1, "row"), (1, 0, "row")], [(0, 1), (1, 2)])
    run = Run(net)
    for number in range(many):
        run.pick(0, number)
        run.pick(1, number)
    return run


def to_and_fro(many):
    """One letter goes to and fro: events (0, 1) (1, 1) (0, 2) (1, 2) .., so many of each."""
    net = Net([counter(50), counter(50)], [(0, 1, "row"), (1, 0, "row")], [(1, 1)])
    return played_run(net, [(way, number) for number in range(many) for way in (1, 0)])


def events_of(run):
    """The events of a run, in order."""
    return [run.worked_by(way, number) for way, number in run.schedule()]


def events_ahead(run):
    """For each event of a run all that are ahead of it, by the plain words of [12]."""
    ahead = {event: set() for event in events_of(run)}
    for way, number in run.schedule():
        m, c = event = run.worked_by(way, number)
        for one in [(m, c - 1), run.sent_by(way, number)]:
            if one in ahead:
                ahead[event] |= {one} | ahead[one]
    return ahead


def counts_of(run):
    """The cut of all counts of a run."""
    return tuple(run.count(m) for m in range(len(run.net().machines())))


def random_points(chance, run):
    """Any points of a run, about half of them with 0 for each machine."""
    points = []
    with_noughts = chance.randrange(2) == 0
    for count in counts_of(run):
        counts = {c for c in range(count + 1) if chance.randrange(3 if with_noughts else 9) == 0}
        points.append(sorted(counts | {0 if with_noughts else chance.randrange(count + 1)}))
    return points


def all_lines(run, points):
    """All choices of points that could have been, one by one."""
    return [choice for choice in itertools.product(*points) if orphans_of(run, choice) == []]


def greatest_of(cuts):
    """The greater count of each machine of all these cuts."""
    return tuple(max(counts) for counts in zip(*cuts))


def fallen(run, points, cut, falls):
    """Where falls lead to from a cut on; each must be as the words of [16] say."""
    cut = list(cut)
    for fall in falls:
        m, high, low, letter = fall
        worker, c = run.worked_by(*letter)
        fits = [type(fall) is tuple, letter in orphans_of(run, tuple(cut)), worker == m, cut[m] == high]
        if fits != [True] * 4 or low != max([point for point in points[m] if point < c]):
            raise AssertionError(("no fall", tuple(cut), fall))
        cut[m] = low
    return tuple(cut)


def picked(live, schedule):
    """A live net with these picks done."""
    for way, number in schedule:
        live.pick(way, number)
    return live


def machines_of(live):
    """The numbers of the machines of a live net."""
    return list(range(len(live.net().machines())))


def latest_by_hearsay(run, points):
    """The latest line by who heard what: a machine goes back while its last event heard of one that is outside."""
    ahead = events_ahead(run)
    cut = [counts[-1] for counts in points]
    turns = 1
    while turns:
        turns = 0
        for m in range(len(cut)):
            while any(c > cut[one] for one, c in ahead.get((m, cut[m]), [])):
                cut[m] = max(point for point in points[m] if point < cut[m])
                turns += 1
    return tuple(cut)


def told_live(live):
    """All that is told of a live net, of whatever way of keeping, but by what changes it."""
    run = live.run()
    told = [live.history(), all_told(run), live.sure(), live.stop([])]
    asks = ["points", "reach", "number_of", "keeps", "store"]
    told += [getattr(live, ask)(m) for ask in asks if hasattr(live, ask) for m in machines_of(live)]
    told += [getattr(live, ask)() for ask in ["marks", "in_hand", "done_cuts"] if hasattr(live, ask)]
    if hasattr(live, "borne"):
        letters = [(way, number) for way in range(len(run.net().ways())) for number in range(run.put_many(way))]
        told += [live.borne(way, number) for way, number in letters]
        told += [live.first_cut(n) for n in range(1, 9)]
    return copied(told)
