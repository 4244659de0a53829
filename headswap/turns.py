"""Under which heads all rows come round after the same number of times."""

from headswap.nets import ROOT


def round_heads(course):
    """Tell the round heads, the fewest, by their turns."""
    goals = goals_of(course)
    nodes = {}
    worth = {}
    # An arc is made of arcs with lesser numbers: so what becomes of the later ones is known first.
    for state in sorted(goals, reverse=True):
        worth[state] = worth_of(course, state[0], [worth[goal] for goal in goals[state]], nodes)
    return spread(worth[(ROOT, "")], nodes)


def goals_of(course):
    """Tell, by each arc and the signs known of what stands there, to which ones the next change leads it."""
    told = {}
    left = [(ROOT, "")]
    while left:
        state = left.pop()
        if state not in told:
            told[state] = next_states(course, state[0], state[1])
            left.extend(told[state])
    return told


def next_states(course, arc, known):
    """Tell where the change of an arc leads what stands there: two where the sign that it goes by is not known."""
    if arc not in course.fates:
        return []
    change = course.fates[arc]
    if change[0] == "chain":
        return [(change[3], known)]
    if change[0] == "pair":
        return [(change[3], ("0" if arc == change[1] else "1") + known)]
    if known == "":
        return [(change[2], ""), (change[3], "")]
    return [(change[2 + int(known[0])], known[1:])]


def worth_of(course, arc, inner, nodes):
    """Tell a turn, 0 where rows do not come round together, or below nought the number of a node of two worths."""
    if not inner:
        begin, end, many = course.net.lines[arc]
        return many if begin is None else 0
    # Two heads with one turn under both are one head; two nodes are two, also where they are the same.
    if len(inner) == 1 or inner[0] == inner[1] and inner[0] >= 0:
        return inner[0]
    pair = (inner[0], inner[1])
    if pair not in nodes:
        nodes[pair] = -1 - len(nodes)
    return nodes[pair]


def spread(worth, nodes):
    """Tell the heads, in order, by the turns that a worth has under them."""
    parts = {number: pair for pair, number in nodes.items()}
    told = {}
    left = [("", worth)]
    while left:
        head, inner = left.pop()
        if inner < 0:
            left.append((head + "1", parts[inner][1]))
            left.append((head + "0", parts[inner][0]))
        elif inner > 0:
            told.setdefault(inner, []).append(head)
    return told
