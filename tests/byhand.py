"""Answers straight from the words of the document, for holding the program against, and boards to ask of.

Nothing here draws from the program, and nothing is done the way the program does it.
"""

import itertools
import random


def signs_of(rows):
    """The signs of the rows by their places, those without a cell left out."""
    return {
        (row, column): sign
        for row, text in enumerate(rows) for column, sign in enumerate(text) if sign != "#"
    }


def closed_by_hand(rows):
    return sorted(cell for cell, sign in signs_of(rows).items() if sign == "?")


def numbers_by_hand(rows):
    """The numbers told, by the open cells."""
    return {cell: int(sign) for cell, sign in sorted(signs_of(rows).items()) if sign != "?"}


def beside(one, other):
    return max(abs(one[0] - other[0]), abs(one[1] - other[1])) == 1


def stones_beside(cell, stones):
    return len([stone for stone in stones if beside(stone, cell)])


def layings_by_hand(rows, stones):
    """All layings (8), by going through all choices of so many closed cells."""
    numbers = numbers_by_hand(rows)
    return [
        list(pick) for pick in itertools.combinations(closed_by_hand(rows), stones)
        if all(stones_beside(cell, pick) == number for cell, number in numbers.items())
    ]


def parts_by_hand(rows):
    """All parts (11): from each near cell all that are joined to it, again and again."""
    hidden = closed_by_hand(rows)
    told = numbers_by_hand(rows)

    def are_joined(one, other):
        return any(beside(one, cell) and beside(other, cell) for cell in told)

    found = set()
    for start in hidden:
        if any(beside(start, cell) for cell in told):
            reached = [start]
            for cell in reached:
                reached.extend(other for other in hidden if other not in reached and are_joined(cell, other))
            found.add(tuple(sorted(reached)))
    return [list(part) for part in sorted(found)]


def far_by_hand(rows):
    told = numbers_by_hand(rows)
    return [cell for cell in closed_by_hand(rows) if not any(beside(cell, other) for other in told)]


def numbers_of_part_by_hand(rows, part):
    return [cell for cell in numbers_by_hand(rows) if any(beside(cell, other) for other in part)]


def part_layings_by_hand(rows, part):
    """All part layings (13), by going through all choices of cells of the part."""
    numbers = numbers_by_hand(rows)
    told = [(numbers[cell], cell) for cell in numbers_of_part_by_hand(rows, part)]
    found = []
    for size in range(len(part) + 1):
        for pick in itertools.combinations(part, size):
            if all(stones_beside(cell, pick) == number for number, cell in told):
                found.append(list(pick))
    return sorted(found)


def count_by_hand(rows, stones, having=None):
    """How many layings there are, or of them those that have a cell, without parts and far cells.

    The closed cells are gone through one by one; what is kept is, by what each open cell still asks for
    and how many stones are left, in how many ways it came to that.
    """
    numbers = numbers_by_hand(rows)
    told = list(numbers)
    hidden = closed_by_hand(rows)
    ways = {(tuple(numbers.values()), stones): 1}
    for place, cell in enumerate(hidden):
        # What no later cell can give is to be given by now.
        due = [not any(beside(open_cell, later) for later in hidden[place + 1:]) for open_cell in told]
        grown = {}
        for (asked, left), many in ways.items():
            for lies in (0, 1):
                if cell == having and not lies:
                    continue
                still = tuple(need - lies * beside(cell, other) for need, other in zip(asked, told))
                fits = all(need >= 0 and not (late and need) for need, late in zip(still, due))
                if fits and left >= lies:
                    grown[(still, left - lies)] = grown.get((still, left - lies), 0) + many
        ways = grown
    return ways.get((tuple(0 for _ in told), 0), 0)


def some_rows(dice, height, width, signs, opened, wrong):
    """Rows of a board with stones laid by chance, and how many there are of these.

    A part of the clear cells is opened; of the numbers told a part may not fit.
    """
    cells = [(row, column) for row in range(height) for column in range(width)]
    laid = {cell: dice.choice(signs) for cell in cells}
    stones = [cell for cell in cells if laid[cell] == "o"]
    for cell in cells:
        if laid[cell] == "." and dice.random() < opened:
            odd = dice.random() < wrong
            laid[cell] = str(dice.randint(0, 3) if odd else stones_beside(cell, stones))
        elif laid[cell] != "#":
            laid[cell] = "?"
    return ["".join(laid[(row, column)] for column in range(width)) for row in range(height)], len(stones)


def small_boards(many):
    """Rows and stones of unlike boards with at most twelve closed cells, the same in each run."""
    dice = random.Random(7)
    found = []
    while len(found) < many:
        rows, stones = some_rows(dice, dice.randint(1, 4), dice.randint(1, 5), "oo.....#", 0.5, 0.03)
        if len(closed_by_hand(rows)) <= 12:
            found.append((rows, max(0, stones + dice.choice((0, 0, 0, 1, -1)))))
    return found


def great_boards(many):
    """Rows and stones of unlike boards of up to 64 cells, no part with more than fourteen, the same in each run."""
    dice = random.Random(11)
    found = []
    while len(found) < many:
        signs = dice.choice(("oo......", "o....##", "oo.###", "oo..####", "ooo..."))
        height, width = dice.randint(4, 8), dice.randint(4, 8)
        rows, stones = some_rows(dice, height, width, signs, dice.choice((0.05, 0.1, 0.9)), 0.01)
        pieces = parts_by_hand(rows)
        if pieces and max(len(part) for part in pieces) <= 14:
            found.append((rows, max(0, stones + dice.choice((0, 0, 0, 1, -1)))))
    return found


def choices_of(cells):
    """All choices of these cells, each as a set."""
    cells = list(cells)
    return [set(pick) for size in range(len(cells) + 1) for pick in itertools.combinations(cells, size)]


def thing_holds(rows, stones, thing, choice):
    """Whether a thing told (21) holds in a choice of closed cells."""
    if thing == "all":
        return len(choice) == stones
    return stones_beside(thing, choice) == numbers_by_hand(rows)[thing]


def follows_by_hand(rows, stones, things, finding):
    """What follows (22, 23), by going through all choices of closed cells, or None where none fits."""
    hidden = closed_by_hand(rows)
    clears, laid = set(finding[0]), set(finding[1])
    fitting = [
        choice for choice in choices_of(hidden)
        if not clears & choice and laid <= choice
        and all(thing_holds(rows, stones, thing, choice) for thing in things)
    ]
    if not fitting:
        return None
    unknown = [cell for cell in hidden if cell not in clears | laid]
    return (
        [cell for cell in unknown if not any(cell in choice for choice in fitting)],
        [cell for cell in unknown if all(cell in choice for choice in fitting)],
    )


def thing_lists(rows):
    """All lists of one thing and of two, in the order of 24."""
    row = list(numbers_by_hand(rows)) + ["all"]
    return [[thing] for thing in row] + [list(pair) for pair in itertools.combinations(row, 2)]


def thoughts_by_hand(rows, stones):
    """The thoughts (24) of a board that has a laying, each list asked anew at each step."""
    steps = []
    finding = ([], [])
    going = True
    while going:
        going = False
        for things in thing_lists(rows):
            clears, laid = follows_by_hand(rows, stones, things, finding)
            if clears or laid:
                steps.append((things, clears, laid))
                finding = (sorted(finding[0] + clears), sorted(finding[1] + laid))
                going = True
                break
    return steps, finding


def containers(value):
    """All lists and dicts in what is told, itself too, as often as they stand there."""
    found = [value] if isinstance(value, (list, dict)) else []
    inner = []
    if isinstance(value, dict):
        inner = list(value) + list(value.values())
    elif isinstance(value, (list, tuple)):
        inner = list(value)
    for part in inner:
        found.extend(containers(part))
    return found


def some_fields(many, height, width, seed):
    """Unlike fields with a clear cell at least, the same in each run."""
    dice = random.Random(seed)
    found = []
    while len(found) < many:
        signs = dice.choice(("o...", "o.....", "o.......", "oo....#", "o........#"))
        rows, columns = dice.randint(1, height), dice.randint(1, width)
        field = ["".join(dice.choice(signs) for _ in range(columns)) for _ in range(rows)]
        if any("." in row for row in field):
            found.append(field)
    return found


def cells_by_hand(field, sign):
    return [cell for cell, other in sorted(signs_of(field).items()) if other == sign]


def board_by_hand(field, cells):
    """The rows and stones of the board of a field with these cells opened (26)."""
    stones = cells_by_hand(field, "o")
    rows = []
    for row, text in enumerate(field):
        signs = ["#" if sign == "#" else "?" for sign in text]
        for column in range(len(signs)):
            if (row, column) in cells:
                signs[column] = str(stones_beside((row, column), stones))
        rows.append("".join(signs))
    return rows, len(stones)


def look_by_hand(rows, stones, way):
    """The closed cells that one look at a small board finds to be clear (27, 28)."""
    if way == "thoughts":
        return thoughts_by_hand(rows, stones)[1][0]
    found = layings_by_hand(rows, stones)
    return [cell for cell in closed_by_hand(rows) if not any(cell in laying for laying in found)]


def run_by_hand(field, first, way):
    """A run (27, 28) on a small field."""
    row = [first]
    while True:
        rows, stones = board_by_hand(field, row)
        if set(row) == set(cells_by_hand(field, ".")):
            return "end", row, (rows, stones)
        found = look_by_hand(rows, stones, way)
        if not found:
            return "stuck", row, (rows, stones)
        row = row + found


def opened_by_hand(rows, cell, number):
    """The rows with a number told at a closed cell."""
    text = rows[cell[0]]
    told = text[:cell[1]] + str(number) + text[cell[1] + 1:]
    return rows[:cell[0]] + [told] + rows[cell[0] + 1:]


def numbers_told_by_hand(found, cell):
    """The numbers that a cell may tell, of the layings that haven't it."""
    return sorted({stones_beside(cell, laying) for laying in found if cell not in laying})


def through_by_hand(rows, stones, depth):
    """How many layings come through so many openings at the best (30), each time on the board so opened."""
    found = layings_by_hand(rows, stones)
    hidden = closed_by_hand(rows)
    if depth == 0 or all(cell in laying for cell in hidden for laying in found):
        return len(found)
    return max(through_at_by_hand(rows, stones, depth, cell) for cell in hidden)


def through_at_by_hand(rows, stones, depth, cell):
    """How many layings come through if this cell is opened first, the depth being from 1 on."""
    numbers = numbers_told_by_hand(layings_by_hand(rows, stones), cell)
    return sum(through_by_hand(opened_by_hand(rows, cell, number), stones, depth - 1) for number in numbers)


def chance_boards(many):
    """Rows and stones of unlike boards with at most seven closed cells and a laying, the same in each run."""
    dice = random.Random(13)
    found = []
    while len(found) < many:
        rows, stones = some_rows(dice, dice.randint(1, 3), dice.randint(1, 4), "oo.....#", 0.3, 0)
        if len(closed_by_hand(rows)) <= 7 and layings_by_hand(rows, stones):
            found.append((rows, stones))
    return found
