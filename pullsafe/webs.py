"""Webs: which nodes supply which, how they are woken and put to sleep, and the habits of nodes."""

from pullsafe.errors import BadValue
from pullsafe.kinds import is_integer_from, is_row, is_sequence

MOST_NODES = 8


def is_node_row(value, many):
    """Tell whether value is an ascending sequence of different nodes out of so many."""
    if not is_sequence(value) or not all([is_integer_from(node, 0, many - 1) for node in value]):
        return False
    return all([low < high for low, high in zip(value, value[1:])])


def is_row_of_others(value, many, node):
    """Tell whether value is an ascending sequence of different nodes other than this one."""
    return is_node_row(value, many) and node not in value


def has_no_circle(web):
    """Tell whether no node supplies itself through others."""
    awake = []
    for _ in web:
        awake = [node for node, suppliers in enumerate(web) if all([other in awake for other in suppliers])]
    return len(awake) == len(web)


def is_web(value):
    """Tell whether value is a web."""
    if not is_sequence(value) or len(value) < 1 or len(value) > MOST_NODES:
        return False
    rows = [is_row_of_others(suppliers, len(value), node) for node, suppliers in enumerate(value)]
    return all(rows) and has_no_circle(value)


def plain_web(web):
    """Return the web in tuples, or raise BadValue(0) for what is none."""
    if not is_web(web):
        raise BadValue(0)
    return tuple([tuple(suppliers) for suppliers in web])


def is_lawful(web, awake):
    """Tell whether a set of nodes has the suppliers of all its nodes."""
    return all([other in awake for node in awake for other in web[node]])


def plain_lawful(web, value, at):
    """Return the lawful set as a tuple, or raise BadValue with at for what is none."""
    if not is_node_row(value, len(web)) or not is_lawful(web, value):
        raise BadValue(at)
    return tuple(value)


def is_move(value, many):
    """Tell whether value is a move of one of so many nodes."""
    return is_row(value, 2) and value[0] in ("wake", "sleep") and is_integer_from(value[1], 0, many - 1)


def is_condition(value, many, node):
    """Tell whether value is a pair (up, down) for a node."""
    if not is_row(value, 2):
        return False
    up, down = value
    if not is_row_of_others(up, many, node) or not is_row_of_others(down, many, node):
        return False
    return not any([other in down for other in up])


def is_habit(value, many, node):
    """Tell whether value is the pair (wake, sleep) of a node."""
    return is_row(value, 2) and is_condition(value[0], many, node) and is_condition(value[1], many, node)


def is_habits(value):
    """Tell whether value is habits."""
    if not is_sequence(value) or len(value) < 1 or len(value) > MOST_NODES:
        return False
    return all([is_habit(habit, len(value), node) for node, habit in enumerate(value)])


def is_met(condition, awake):
    """Tell whether all of up are awake and all of down asleep."""
    up, down = condition
    return all([node in awake for node in up]) and not any([node in awake for node in down])


def allows(habits, awake, move):
    """Tell whether habits allow a move where these nodes are awake."""
    word, node = move
    wake, sleep = habits[node]
    if word == "wake":
        return node not in awake and is_met(wake, awake)
    return node in awake and is_met(sleep, awake)


def moves_of(many):
    """Return all moves of so many nodes, ascending."""
    return [(word, node) for word in ("sleep", "wake") for node in range(many)]


def moved(awake, move):
    """Return the set of the nodes that are awake behind an allowed move."""
    word, node = move
    if word == "wake":
        return tuple(sorted(awake + (node,)))
    return tuple([other for other in awake if other != node])


def habits_of(web):
    """Return the habits that allow each node what the web allows it."""
    told = plain_web(web)
    habits = []
    for node, suppliers in enumerate(told):
        clients = tuple([other for other, row in enumerate(told) if node in row])
        habits.append(((suppliers, ()), ((), clients)))
    return tuple(habits)


def allowed(web, awake, moves):
    """Return the number of the first move that is not allowed, or None if there is none."""
    told = plain_web(web)
    here = plain_lawful(told, awake, 1)
    if not is_sequence(moves) or not all([is_move(move, len(told)) for move in moves]):
        raise BadValue(2)
    habits = habits_of(told)
    for at, move in enumerate(moves):
        if not allows(habits, here, move):
            return at
        here = moved(here, move)
    return None


def lawful(web):
    """Return the lawful sets, ascending."""
    told = plain_web(web)
    found = [()]
    for node in range(len(told)):
        found = found + [awake + (node,) for awake in found]
    return tuple(sorted([awake for awake in found if is_lawful(told, awake)]))


def way(web, one, other):
    """Return the first of the shortest sequences of allowed moves from one lawful set to another.

    Each move that is left and allowed leads to a lawful set that is nearer; so the least of
    them may be done at once.
    """
    told = plain_web(web)
    here = plain_lawful(told, one, 1)
    there = plain_lawful(told, other, 2)
    habits = habits_of(told)
    left = [("sleep", node) for node in here if node not in there]
    left.extend([("wake", node) for node in there if node not in here])
    done = []
    while left:
        move = [each for each in left if allows(habits, here, each)][0]
        here = moved(here, move)
        left.remove(move)
        done.append(move)
    return tuple(done)


def orders(web):
    """Return the number of sequences of all nodes in which each stands behind its suppliers."""
    habits = habits_of(web)
    many = len(habits)
    counts = {(): 1}
    for _ in range(many):
        longer = {}
        for awake, count in counts.items():
            for move in [("wake", node) for node in range(many)]:
                if allows(habits, awake, move):
                    found = moved(awake, move)
                    longer[found] = longer.get(found, 0) + count
        counts = longer
    return counts[tuple(range(many))]


def same(web, habits):
    """Return None if both allow the same, otherwise the first shortest difference and who allows it.

    Sets are left in the order of their first shortest sequences, by moves in ascending order; so
    the first difference that is met ends the first of the shortest sequences to one.
    """
    own = habits_of(web)
    if not is_habits(habits) or len(habits) != len(own):
        raise BadValue(1)
    runs = {(): ()}
    queue = [()]
    at = 0
    while at < len(queue):
        awake = queue[at]
        at += 1
        for move in moves_of(len(own)):
            by_web = allows(own, awake, move)
            if by_web != allows(habits, awake, move):
                return (runs[awake] + (move,), "web" if by_web else "habits")
            if by_web and moved(awake, move) not in runs:
                runs[moved(awake, move)] = runs[awake] + (move,)
                queue.append(moved(awake, move))
    return None


def reached(habits):
    """Return the sets to which habits lead from where all nodes are asleep, the nearest first."""
    seen = {(): True}
    queue = [()]
    at = 0
    while at < len(queue):
        awake = queue[at]
        at += 1
        for move in moves_of(len(habits)):
            if allows(habits, awake, move) and moved(awake, move) not in seen:
                seen[moved(awake, move)] = True
                queue.append(moved(awake, move))
    return queue


def web_of(habits):
    """Return the web that allows the same as habits, with all suppliers told, or None.

    A web leads to the set of a node and its suppliers before any other set with the node. And
    whatever the habits, the sets found here make a web: each set has one node more than one
    before it, so that no two nodes are first met in the same set.
    """
    if not is_habits(habits):
        raise BadValue(0)
    sets = reached(habits)
    rows = []
    for node in range(len(habits)):
        beside = [awake for awake in sets if node in awake]
        if not beside:
            return None
        rows.append(tuple([other for other in beside[0] if other != node]))
    web = tuple(rows)
    return web if same(web, habits) is None else None
