"""Slow but sure walks over stands: each one is reckoned anew from a whole text and a place."""

from fractions import Fraction
from itertools import product

from leastfile.formats import coded
from leastfile.shortest import costs
from tests.helping import dearer, formats, last, plain, put

FIRST = ("", 0, ())
ROWS = {}

# Formats and sights with just 1000 stands, and with 1001.
JUST = [
    (coded("ab", {"a": 6, "b": 5, "end": 10, (2, 4): 11, (5, 1): 10, (5, 3): 4, (2, 1): 4}), 1),
    (coded("abc", {"a": 12, "b": 5, "c": 10, "end": 1, (2, 4): 7, (2, 2): 8, (2, 3): 12}), 2),
    (coded("ab", {"a": 12, "b": 6, "end": 11, (5, 2): 3, (3, 1): 5, (3, 3): 12}), 4),
    (coded("ab", {"a": 12, "b": 3, "end": 3, (5, 2): 3, (3, 1): 9, (4, 2): 9}), 6),
]
ONE_MORE = [
    (coded("ab", {"a": 5, "b": 2, "end": 7, (3, 4): 3, (4, 2): 6, (5, 2): 12, (2, 4): 4}), 1),
    (coded("abc", {"a": 1, "b": 11, "c": 4, "end": 12, (2, 3): 6, (2, 1): 4, (3, 2): 5}), 3),
    (coded("ab", {"a": 11, "b": 6, "end": 4, (5, 3): 4, (5, 1): 7, (4, 1): 11}), 4),
    (coded("ab", {"a": 9, "b": 7, "end": 12, (5, 1): 12, (5, 2): 5, (2, 1): 10}), 6),
]


def shown():
    """Pairs of a format and a sight, with not too many stands."""
    found = [(plain(), sight) for sight in range(1, 7)]
    found += [(formats()[1], sight) for sight in (1, 2, 6)] + [(formats()[2], sight) for sight in (1, 2, 3, 6)]
    found += [(coded("ab", {"a": 1, "b": 2, "end": 2}), sight) for sight in (1, 2, 4)]
    far = coded("ab", {"a": 3, "b": 2, "end": 2, (2, 3): 2})
    # The only copy is longer than the first three of these sights.
    long = coded("ab", {"a": 2, "b": 3, "end": 2, (4, 1): 2})
    found += [(far, sight) for sight in (1, 2, 3)] + [(long, sight) for sight in (1, 2, 3, 4, 5)]
    three = coded("xyz", {"x": 2, "y": 2, "z": 3, "end": 3, (2, 1): 3, (3, 1): 3})
    return found + [(three, sight) for sight in (1, 2, 3)] + [(formats()[6], 5)] + few()[-2:]


def few():
    """Pairs of a format and a sight, with few ready stands at which there is a choice."""
    return [(coded(letters, {**prices, "end": 3}), sight) for letters, prices, sights in [
        ("a", {"a": 3, (2, 1): 4, (3, 1): 3}, (1, 2, 3, 4)), ("a", {"a": 5, (2, 1): 2, (3, 2): 4}, (2, 3)),
        ("a", {"a": 4, (2, 2): 5, (3, 1): 8, (4, 1): 9}, (1, 2)), ("a", {"a": 1, (2, 1): 4}, (2, 4)),
        ("a", {"a": 6, (3, 1): 2, (2, 1): 2}, (2, 3, 4)), ("a", {"a": 8, (3, 1): 8, (4, 2): 5}, (3,)),
        ("a", {"a": 7, (3, 1): 4, (2, 2): 3}, (2,)), ("a", {"a": 3, (4, 1): 4, (4, 2): 8, (2, 3): 5}, (2, 3)),
        ("ab", {"a": 3, "b": 2, (2, 1): 3}, (1, 2)), ("ab", {"a": 1, "b": 4, (2, 1): 3}, (2,)),
        ("ab", {"a": 2, "b": 2, (2, 1): 5}, (2,)), ("ab", {"a": 3, "b": 4, (2, 1): 1}, (1, 2)),
        ("ab", {"a": 8, "b": 9, (3, 1): 8, (2, 1): 1}, (2,)), ("ab", {"a": 9, "b": 2, (3, 1): 9, (2, 1): 9}, (2,)),
    ] for sight in sights]


def stand_of(coding, sight, text, at):
    """The stand behind a text, if the rule has its place at a number."""
    waits = len(text) - at
    many = coding.window + max(coding.longest, sight) - (1 if waits < sight else 0)
    return (last(text, many), waits, dearer(costs(coding, text), coding.longest))


def commands_at(coding, sight, text, at):
    """The commands with a reach of at most the sight that can stand at a place, with the places behind them."""
    found = {}
    for command in coding.commands():
        if command != "end":
            longer = put(text[:at], command)
            if longer is not None and text.startswith(longer) and len(longer) - at <= sight:
                found[command] = len(longer)
    return found


def rows_at(coding, sight, text, at):
    """For each letter: what is gained, the ready stand or None, and for each command (None where the rule waits) the
    price, the text and the place behind."""
    row = {}
    for letter in coding.letters:
        told = text + letter
        gained = costs(coding, told)[-1] - costs(coding, text)[-1]
        if len(told) - at < sight:
            row[letter] = (gained, None, {None: (0, told, at)})
        else:
            places = commands_at(coding, sight, told, at)
            options = {command: (coding.price(command), told, places[command]) for command in places}
            row[letter] = (gained, stand_of(coding, sight, told, at), options)
    return row


def rows_of_stands(coding, sight):
    """A dict from stands to dicts from letters to triples: what is gained, the ready stand or None, and a dict from
    commands (None where the rule waits) to pairs of a price and the stand behind."""
    key = (coding.letters, sight, tuple([(command, coding.price(command)) for command in coding.commands()]))
    if key in ROWS:
        return ROWS[key]
    rows = {}
    due = [("", 0)]
    # The shortest texts come first.
    for text, at in due:
        stand = stand_of(coding, sight, text, at)
        if stand in rows:
            continue
        rows[stand] = {}
        for letter, (gained, ready, options) in rows_at(coding, sight, text, at).items():
            due += [(told, place) for price, told, place in options.values()]
            behind = {command: (options[command][0], stand_of(coding, sight, *options[command][1:]))
                      for command in options}
            rows[stand][letter] = (gained, ready, behind)
    ROWS[key] = rows
    return rows


def plan_holds(rows, r, moves, heights):
    """Tell whether a plan, its forms being right, is one for r."""
    taken = dict(moves)
    high = {stand: Fraction(*height) for stand, height in heights}
    if len(taken) != len(moves) or len(high) != len(heights) or high.get(FIRST) != 0:
        return False
    for stand in high:
        if stand not in rows:
            return False
        for gained, ready, options in rows[stand].values():
            command = None if ready is None else taken.get(ready, "none")
            if command not in options:
                return False
            price, behind = options[command]
            if behind not in high or high[behind] < high[stand] + price - Fraction(*r) * gained:
                return False
    return True


def enemy_holds(rows, r, plan):
    """Tell whether an enemy's plan, its forms being right, is one for r."""
    high = {stand: Fraction(*height) for stand, letter, height in plan}
    if len(high) != len(plan) or high.get(FIRST) != 0:
        return False
    for stand, letter, _ in plan:
        if stand not in rows:
            return False
        gained, _, options = rows[stand][letter]
        for price, behind in options.values():
            if behind not in high or high[behind] > high[stand] + price - Fraction(*r) * gained:
                return False
    return True


def greatest_quotient(graph):
    """The greatest quotient of paid and gained sums over all rings that the first stand leads to; graph is a dict from
    stands to lists of triples (stand behind, paid, gained)."""
    best = Fraction(0)
    while True:
        ring = ring_above(graph, best)
        if ring is None:
            return best
        best = Fraction(sum([paid for _, paid, _ in ring]), sum([gained for _, _, gained in ring]))


def ring_above(graph, r):
    """The steps of a ring with a quotient above r, or None."""
    top, bottom = r.as_integer_ratio()
    sums = {FIRST: 0}
    origins = {}
    for _ in range(len(graph) + 1):
        changed = None
        for stand in list(sums):
            for step in graph[stand]:
                total = sums[stand] + bottom * step[1] - top * step[2]
                if step[0] not in sums or total > sums[step[0]]:
                    sums[step[0]] = total
                    origins[step[0]] = (stand, step)
                    changed = step[0]
        if changed is None:
            return None
    for _ in range(len(graph)):
        changed = origins[changed][0]
    begin, step = origins[changed]
    ring = [step]
    while begin != changed:
        begin, step = origins[begin]
        ring.append(step)
    return ring


def graph_of(rows, taken):
    """The graph that is left if the rule takes a command at each ready stand."""
    graph = {}
    due = [FIRST]
    while due:
        stand = due.pop()
        if stand not in graph:
            graph[stand] = []
            for gained, ready, options in rows[stand].values():
                price, behind = options[None if ready is None else taken[ready]]
                graph[stand].append((behind, price, gained))
                due.append(behind)
    return graph


def ways_to_choose(rows):
    """Each way of giving the ready stands one of their choices."""
    choices = {}
    for row in rows.values():
        for _, ready, options in row.values():
            if ready is not None:
                choices[ready] = list(options)
    return [dict(zip(choices, each)) for each in product(*choices.values())]
