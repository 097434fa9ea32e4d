"""A second account of webs and habits, by the words of the document and not by the package.

Sets are frozensets, sequences of moves are tried one after the other or shortened until nothing changes.
"""

import itertools


def is_web(value):
    """Tell by the words of [26] whether value is a web."""
    if type(value) not in (list, tuple) or not 1 <= len(value) <= 8:
        return False
    for node, row in enumerate(value):
        if type(row) not in (list, tuple) or any(type(other) is not int for other in row):
            return False
        if list(row) != sorted(set(row)) or any(other not in range(len(value)) for other in row) or node in row:
            return False
    return all(node not in suppliers(value, node) for node in range(len(value)))


def is_habits(value):
    """Tell by the words of [32] whether value is habits."""
    if type(value) not in (list, tuple) or not 1 <= len(value) <= 8:
        return False
    for node, habit in enumerate(value):
        if type(habit) not in (list, tuple) or len(habit) != 2:
            return False
        for pair in habit:
            if type(pair) not in (list, tuple) or len(pair) != 2:
                return False
            for row in pair:
                if type(row) not in (list, tuple) or any(type(other) is not int for other in row):
                    return False
                if list(row) != sorted(set(row)) or node in row or not set(row) <= set(range(len(value))):
                    return False
            if set(pair[0]) & set(pair[1]):
                return False
    return True


def suppliers(web, node):
    """Return the set of all nodes that supply a node, directly or through others."""
    found, fresh = set(), list(web[node])
    while fresh:
        other = fresh.pop()
        if other not in found:
            found.add(other)
            fresh.extend(web[other])
    return found


def closed(web):
    """Return the web with all suppliers told."""
    return tuple(tuple(sorted(suppliers(web, node))) for node in range(len(web)))


def all_moves(many):
    return sorted((word, node) for word in ("wake", "sleep") for node in range(many))


def web_allows(web, awake, move):
    word, node = move
    if word == "wake":
        return node not in awake and set(web[node]) <= awake
    return node in awake and all(node not in web[other] for other in awake)


def habits_allow(habits, awake, move):
    word, node = move
    up, down = habits[node][0 if word == "wake" else 1]
    return (node in awake) == (word == "sleep") and set(up) <= awake and not set(down) & awake


def behind(awake, move):
    word, node = move
    return awake | {node} if word == "wake" else awake - {node}


def lawful(web):
    many = len(web)
    rows = [row for size in range(many + 1) for row in itertools.combinations(range(many), size)]
    return tuple(sorted(row for row in rows if all(set(web[node]) <= set(row) for node in row)))


def first_refused(web, awake, moves):
    here = frozenset(awake)
    for at, move in enumerate(moves):
        if not web_allows(web, here, move):
            return at
        here = behind(here, move)
    return None


def ways_from(web, one):
    """Return the first of the shortest ways from a set to each other, all found by a search."""
    found = {frozenset(one): ()}
    level = {frozenset(one): ()}
    while level:
        deeper = {}
        for here, moves in level.items():
            for move in all_moves(len(web)):
                there = behind(here, move)
                if web_allows(web, here, move) and there not in found:
                    deeper[there] = min(deeper.get(there, moves + (move,)), moves + (move,))
        found.update(deeper)
        level = deeper
    return {tuple(sorted(there)): moves for there, moves in found.items()}


def orders(web):
    """Count the rows by trying all."""
    many = 0
    for row in itertools.permutations(range(len(web))):
        if all(set(web[node]) <= set(row[:at]) for at, node in enumerate(row)):
            many += 1
    return many


def same(web, habits):
    """Try all sequences that both allow, shorter ones first and those in ascending order."""
    level = [((), frozenset())]
    for _ in range(len(web) + 1):
        deeper = []
        for moves, awake in level:
            for move in all_moves(len(web)):
                by_web, by_habits = web_allows(web, awake, move), habits_allow(habits, awake, move)
                if by_web != by_habits:
                    return (moves + (move,), "web" if by_web else "habits")
                if by_web:
                    deeper.append((moves + (move,), behind(awake, move)))
        assert [moves for moves, _ in deeper] == sorted(moves for moves, _ in deeper)
        level = deeper
    return None


def behaviour(many, allow):
    """Return all sets that moves lead to from where all are asleep, with the moves allowed in each."""
    found, fresh = {}, [frozenset()]
    while fresh:
        awake = fresh.pop()
        if awake not in found:
            found[awake] = tuple(move for move in all_moves(many) if allow(awake, move))
            fresh.extend(behind(awake, move) for move in found[awake])
    return frozenset(found.items())


def behaviour_of_web(web):
    return behaviour(len(web), lambda awake, move: web_allows(web, awake, move))


def behaviour_of_habits(habits):
    return behaviour(len(habits), lambda awake, move: habits_allow(habits, awake, move))


def rows_of_webs(many):
    """Return all rows of as many sets of other nodes, webs and those with circles."""
    choices = []
    for node in range(many):
        others = [other for other in range(many) if other != node]
        choices.append([row for size in range(many) for row in itertools.combinations(others, size)])
    return list(itertools.product(*choices))


def all_webs(many):
    return [row for row in rows_of_webs(many) if is_web(row)]


def random_web(dice, many, percent):
    """Return a random web, thin or thick by a number of percent."""
    rank = list(range(many))
    dice.shuffle(rank)
    return tuple(
        tuple(other for other in range(many) if rank[other] < rank[node] and dice.randrange(100) < percent)
        for node in range(many)
    )


def habits_by_words(web):
    """Return the web's own habits, by the words of [33]."""
    return tuple(
        ((tuple(web[node]), ()), ((), tuple(other for other in range(len(web)) if node in web[other])))
        for node in range(len(web))
    )


def toggled(row, node):
    return tuple(sorted(set(row) ^ {node}))


def changed_habits(habits):
    """Yield habits with one node put into or left out of one of the four rows of one node."""
    for own in range(len(habits)):
        for which in (0, 1):
            for side in (0, 1):
                for node in range(len(habits)):
                    pairs = [list(pair) for pair in habits[own]]
                    if node == own or node in pairs[which][1 - side]:
                        continue
                    pairs[which][side] = toggled(pairs[which][side], node)
                    habit = (tuple(pairs[0]), tuple(pairs[1]))
                    yield habits[:own] + (habit,) + habits[own + 1:]


def random_habits(dice, many, percent):
    """Return random habits in which a node stands in a row with some probability."""
    habits = []
    for own in range(many):
        pairs = []
        for _ in range(2):
            marks = [dice.choice((0, 1)) if dice.randrange(100) < percent else -1 for _ in range(many)]
            marks[own] = -1
            pairs.append(tuple(tuple(n for n in range(many) if marks[n] == side) for side in (0, 1)))
        habits.append(tuple(pairs))
    return tuple(habits)
