"""A plain reckoning of the tests' own, cell by cell, and what is handed in by several tests."""

import itertools
import random
import re
import time

from edgemoss.plans import Both, Eat, Either, Everything, Grow, Keep, Move, Nothing

BOUND = 10 ** 12
FAR = [(BOUND, BOUND), (-BOUND, -BOUND), (BOUND, 0), (0, -BOUND), (123456, -654321)]


def holds(shape, cell):
    """Whether the shape has the cell, by the words of 0.7 alone."""
    stands = any(cell == other for other in shape[0])
    return not stands if shape[1] else stands


def window(shapes, margin=2):
    """All cells about the cells of the shapes, and some far away."""
    cells = [cell for shape in shapes for cell in shape[0]] or [(0, 0)]
    rows = [cell[0] for cell in cells]
    columns = [cell[1] for cell in cells]
    near = [
        (r, c)
        for r in range(min(rows) - margin, max(rows) + margin + 1)
        for c in range(min(columns) - margin, max(columns) + margin + 1)
    ]
    return near + FAR


def is_rising(cells):
    return all(cells[k] < cells[k + 1] for k in range(len(cells) - 1))


def is_cell(thing):
    return type(thing) is tuple and len(thing) == 2 and all(type(x) is int for x in thing)


def is_piece(thing):
    return type(thing) is tuple and len(thing) > 0 and all(map(is_cell, thing)) and is_rising(thing)


def is_shape(thing):
    """Whether it has just the kinds that 0.7 tells, its cells rising."""
    if type(thing) is not tuple or len(thing) != 2 or type(thing[1]) is not bool:
        return False
    return type(thing[0]) is tuple and all(map(is_cell, thing[0])) and is_rising(thing[0])


def some_cells(dice, many, span):
    """At most so many unlike cells, rising."""
    return tuple(sorted({(dice.randint(-span, span), dice.randint(-span, span)) for _ in range(many)}))


def some_shapes(seed, many, most=10, span=3):
    """Shapes with the rest and without it, the empty one and that of all cells among them."""
    dice = random.Random(seed)
    told = [((), False), ((), True)]
    while len(told) < many:
        told.append((some_cells(dice, dice.randint(0, most), span), dice.random() < 0.5))
    return told


def some_pieces(seed, many, most=5, span=2):
    dice = random.Random(seed)
    return [some_cells(dice, dice.randint(1, most), span) for _ in range(many)]


def plus(cell, step):
    return (cell[0] + step[0], cell[1] + step[1])


def minus(cell, step):
    return (cell[0] - step[0], cell[1] - step[1])


def lies_whole(shape, piece, place):
    return all(holds(shape, plus(step, place)) for step in piece)


def lies_clear(shape, piece, place):
    return not any(holds(shape, plus(step, place)) for step in piece)


def in_grown(shape, piece, cell):
    return any(holds(shape, minus(cell, step)) for step in piece)


def in_opened(shape, piece, cell):
    return any(lies_whole(shape, piece, minus(cell, step)) for step in piece)


def in_closed(shape, piece, cell):
    return all(in_grown(shape, piece, plus(cell, step)) for step in piece)


def check_own(test, ask):
    """0.2: a list that is told is the asker's own, and told again as it was."""
    told = ask()
    kept = list(told)
    told.append(None)
    told[0] = None
    test.assertEqual(ask(), kept)
    test.assertIsNot(ask(), ask())


def square(rows, columns, stride=1):
    """So many rows and columns of cells, rising."""
    return tuple((r * stride, c * stride) for r in range(rows) for c in range(columns))


def sums(one, other):
    return tuple(sorted({plus(a, b) for a in one for b in other}))


def against_nought(steps):
    return tuple(sorted((-row, -column) for row, column in steps))


def sets_within(steps):
    """All sets of these steps, the smaller ones first, each a rising tuple."""
    steps = sorted(set(steps))
    return [some for many in range(len(steps) + 1) for some in itertools.combinations(steps, many)]


def spread(many, stride):
    """So many steps in a row of steps, far from one another."""
    return tuple((0, k * stride) for k in range(many))


def kind_of(plan):
    return type(plan).__name__


def comes_out(plan, shape, cell):
    """Whether the cell is in what the plan makes of the shape, by the words of 5.1 alone."""
    kind = kind_of(plan)
    if kind == "Keep":
        return holds(shape, cell)
    if kind in ("Nothing", "Everything"):
        return kind == "Everything"
    if kind == "Move":
        return comes_out(plan.plan, shape, minus(cell, plan.step))
    if kind == "Eat":
        return all(comes_out(plan.plan, shape, plus(cell, step)) for step in plan.piece)
    if kind == "Grow":
        return any(comes_out(plan.plan, shape, minus(cell, step)) for step in plan.piece)
    sides = [comes_out(plan.one, shape, cell), comes_out(plan.other, shape, cell)]
    return all(sides) if kind == "Both" else any(sides)


def reach_in(plan):
    """The reach by the words of 5.7 alone, refusing nothing."""
    kind = kind_of(plan)
    if kind == "Keep":
        return ((0, 0),)
    if kind in ("Nothing", "Everything"):
        return ()
    if kind == "Move":
        return sums(reach_in(plan.plan), against_nought([plan.step]))
    if kind in ("Eat", "Grow"):
        return sums(reach_in(plan.plan), plan.piece if kind == "Eat" else against_nought(plan.piece))
    return tuple(sorted(set(reach_in(plan.one)) | set(reach_in(plan.other))))


def plans_in(plan):
    """The plan and all within it, each as often as it stands there."""
    kind = kind_of(plan)
    if kind in ("Keep", "Nothing", "Everything"):
        return [plan]
    if kind in ("Both", "Either"):
        return [plan] + plans_in(plan.one) + plans_in(plan.other)
    return [plan] + plans_in(plan.plan)


def text_of(plan):
    """5.9 word by word."""
    kind = kind_of(plan)
    if kind in ("Keep", "Nothing", "Everything"):
        return {"Keep": "keep", "Nothing": "none", "Everything": "all"}[kind]
    if kind == "Move":
        return "move %d %d %s" % (plan.step[0], plan.step[1], text_of(plan.plan))
    if kind in ("Both", "Either"):
        return "%s %s %s" % (kind.lower(), text_of(plan.one), text_of(plan.other))
    steps = "".join(" %d %d" % step for step in plan.piece)
    return "%s %d%s %s" % (kind.lower(), len(plan.piece), steps, text_of(plan.plan))


def some_plan(dice, many, deep, most, span):
    """A plan with at most so many in it, at most so deep; pieces with at most so many steps, so far away."""
    if many == 1 or deep == 1:
        return dice.choice([Keep()] * 12 + [Nothing(), Everything()])
    kind = dice.choice([Move, Eat, Eat, Grow, Grow, Both, Either])
    if kind in (Both, Either) and many > 2:
        ahead = dice.randint(1, many - 2)
        rest = many - 1 - ahead
        return kind(some_plan(dice, ahead, deep - 1, most, span), some_plan(dice, rest, deep - 1, most, span))
    inner = some_plan(dice, many - 1, deep - 1, most, span)
    if kind in (Eat, Grow):
        return kind(some_cells(dice, dice.randint(1, most), span), inner)
    return Move((dice.randint(-span, span), dice.randint(-span, span)), inner)


def some_plans(seed, count, many=6, deep=5, most=3, span=1):
    dice = random.Random(seed)
    return [some_plan(dice, dice.randint(1, many), deep, most, span) for _ in range(count)]


FAR_STEP = 10 ** 6
NO_NUMBERS = ["", "x", "-", "--1", "+1", "-0", "00", "01", "-01", "1.0", "1e3", "0x1", "1_0", " 1", "1 ", "- 1", "keep"]
NO_PLANS = ["", "x", "Keep", "keep ", " keep", "KEEP", "nothing", "everything", "-", "0", "1", "no", "eats", "k"]


def plain_number(word, least, most):
    """Whether the word writes a number from least to most, as 5.9 tells."""
    return re.fullmatch(r"0|-?[1-9][0-9]{0,12}", word) is not None and least <= int(word) <= most


def plain_read(words, at):
    """5.10 word by word: ("plan", text, place behind it), or ("no", at)."""
    place, begun = at, 0
    told = []

    def word():
        if place >= len(words):
            raise LookupError(len(words))
        return words[place]

    def number(least, most):
        nonlocal place
        if not plain_number(word(), least, most):
            raise LookupError(place)
        told.append(words[place])
        place += 1
        return int(words[place - 1])

    def plan(level):
        nonlocal place, begun
        first = word()
        if first not in "keep none all move eat grow both either".split(" ") or begun >= 40 or level > 12:
            raise LookupError(place)
        begun += 1
        told.append(first)
        place += 1
        if first == "move":
            number(-FAR_STEP, FAR_STEP)
            number(-FAR_STEP, FAR_STEP)
        if first in ("eat", "grow"):
            ahead = None
            for _ in range(number(1, 12)):
                here = place
                step = (number(-FAR_STEP, FAR_STEP), number(-FAR_STEP, FAR_STEP))
                if ahead is not None and not ahead < step:
                    raise LookupError(here)
                ahead = step
        for _ in range({"keep": 0, "none": 0, "all": 0, "both": 2, "either": 2}.get(first, 1)):
            plan(level + 1)

    try:
        plan(1)
    except LookupError as fault:
        return ("no", fault.args[0])
    return ("plan", " ".join(told), place)


PAIR = ((0, 0), (0, 1))
CORNER = ((-1, 2), (0, 0), (3, -1))


def each_kind(inner=Keep()):
    """A plan of each of the eight kinds, put together with the inner one."""
    return [
        Keep(), Nothing(), Everything(), Move((2, -3), inner), Eat(CORNER, inner), Grow(CORNER, inner),
        Both(inner, Move((0, 1), inner)), Either(Grow(PAIR, inner), inner),
    ]


def put_together():
    """Each kind of plan within each kind."""
    return each_kind() + [plan for inner in each_kind() for plan in each_kind(inner)]


def least_in(plan):
    """The least pieces by the words of 6.1: of all sets of steps of the reach, the smaller ones first."""
    least = []
    for some in sets_within(reach_in(plan)):
        if not any(set(one) <= set(some) for one in least) and comes_out(plan, (some, False), (0, 0)):
            least.append(some)
    return sorted(least)


def bars_in(plan):
    """The bars by the words of 6.2, likewise."""
    least = []
    for some in sets_within(reach_in(plan)):
        if not any(set(one) <= set(some) for one in least) and not comes_out(plan, (some, True), (0, 0)):
            least.append(some)
    return sorted(least)


def narrow_plans(seed, most=9):
    """Plans of each kind, put together, whose reach has few steps, so that all sets of these can be gone through."""
    some = some_plans(seed, 60) + some_plans(seed + 1, 500, many=12, deep=8, most=2)
    wide = [plan for plan in some if len(reach_in(plan)) > most // 2]
    return [plan for plan in put_together() + some[:60] + wide if len(reach_in(plan)) <= most]


def singles(many):
    """A plan with just so many least pieces, each of one step; its bar is one set of them all."""
    plan = Grow(spread(12, 1), Grow(spread(many // 12, 100), Keep())) if many >= 12 else Nothing()
    for k in range(many % 12):
        plan = Either(plan, Move((7, k), Keep()))
    return plan


SIDES = ((-1, 0), (0, -1), (0, 1), (1, 0))
AROUND = ((-1, -1), (-1, 0), (-1, 1), (0, -1), (0, 1), (1, -1), (1, 0), (1, 1))


def grouped(cells, steps):
    """Those that hang together by these steps, each a rising tuple, by joining each two that do."""
    parent = {cell: cell for cell in cells}

    def root(cell):
        while parent[cell] != cell:
            cell = parent[cell]
        return cell

    for cell in cells:
        for other in (plus(cell, step) for step in steps):
            if other in parent:
                parent[root(cell)] = root(other)
    groups = {}
    for cell in cells:
        groups.setdefault(root(cell), []).append(cell)
    return sorted(tuple(sorted(group)) for group in groups.values())


def parts_in_shape(shape):
    """8.1, of a finite shape."""
    return grouped(shape[0], AROUND)


def regions_in(shape):
    """8.1: the outside as far as a window of two more rows and columns on each side shows it, and the holes."""
    lacking = [cell for cell in window([shape])[:-len(FAR)] if cell not in set(shape[0])]
    groups = grouped(lacking, SIDES)
    border = min(lacking)
    return [some for some in groups if border in some][0], [some for some in groups if border not in some]


def holes_in_shape(shape):
    return regions_in(shape)[1] if shape[0] else []


def from_rows(rows, top=0, left=0):
    """The finite shape of the cells at which # stands."""
    cells = [(top + r, left + c) for r, row in enumerate(rows) for c, sign in enumerate(row) if sign == "#"]
    return (tuple(cells), False)


def some_blots(seed, many, rows=5, columns=5, top=0, left=0):
    """Finite shapes of a few rows and columns, some thin, some thick."""
    dice = random.Random(seed)
    told = []
    for _ in range(many):
        thick = dice.choice([0.3, 0.5, 0.65, 0.8])
        cells = [(top + r, left + c) for r in range(rows) for c in range(columns) if dice.random() < thick]
        told.append((tuple(cells), False))
    return told


def pair_off(small, great):
    """Whether each of the small ones lies in one of the great ones, and each of these has just one of them."""
    homes = [[k for k, other in enumerate(great) if set(some) <= set(other)] for some in small]
    return all(len(home) == 1 for home in homes) and sorted(home[0] for home in homes) == list(range(len(great)))


def one_to_one(ahead, behind):
    """8.4: parts and holes, ahead of cells being taken and behind it."""
    return pair_off(parts_in_shape(behind), parts_in_shape(ahead)) and pair_off(
        holes_in_shape(ahead), holes_in_shape(behind)
    )


def is_loose_in(shape, cell):
    """8.3 word by word."""
    near = [plus(cell, step) for step in AROUND if holds(shape, plus(cell, step))]
    lacks_side = not all(holds(shape, plus(cell, step)) for step in SIDES)
    return len(grouped(near, AROUND)) == 1 and lacks_side


def without(shape, cell):
    return (tuple(other for other in shape[0] if other != cell), shape[1])


SPIRAL = from_rows([
    "#########",
    "........#",
    "#######.#",
    "#.....#.#",
    "#.###.#.#",
    "#.#...#.#",
    "#.#####.#",
    "#.......#",
    "#########",
])
RINGS = from_rows([
    "#########",
    "#.......#",
    "#.#####.#",
    "#.#...#.#",
    "#.#.#.#.#",
    "#.#...#.#",
    "#.#####.#",
    "#.......#",
    "#########",
])


def full_shapes():
    """Finite shapes with just 400 cells, none of which spans more than 39: full, in rings, in crumbs, in dots."""
    dice = random.Random(900)
    board = [(r, c) for r in range(40) for c in range(40)]
    crumbs = sorted(dice.sample(board, 400))
    rings = [cell for cell in board if min(min(cell), 39 - max(cell)) % 4 == 0][:400]
    dots = [(2 * r, 2 * c) for r in range(20) for c in range(20)]
    sieve = [(r, c) for r in range(23) for c in range(23) if r % 2 == 0 or c % 2 == 0][:400]
    return [(tuple(cells), False) for cells in (square(20, 20), crumbs, rings, dots, sieve)]


def check_quick(test, asks, seconds=5):
    """Each is answered within so many seconds."""
    for ask in asks:
        ahead = time.monotonic()
        ask()
        test.assertLess(time.monotonic() - ahead, seconds)
