"""Exchanges as plain ones, one behind another."""

from headswap.errors import NotApart, TooGreat
from headswap.heads import need_signs, stand_apart
from headswap.swaps import MOST_ROWS, swap_of


def plains(swap):
    """Tell pairs of heads whose plain exchanges, one behind another, are an exchange."""
    wanted = [other for head, other in swap.table]
    pairs = reshaping([head for head, other in swap.table], wanted)
    reached = [head for head, other in swap.table]
    for one, other in pairs:
        reached = [exchanged(head, one, other) for head in reached]
    return pairs + reordering(reached, wanted)


def reshaping(cut, wanted):
    """Tell pairs that lead the heads of a cut to those of another one with as many heads, in some order."""
    here = inner_heads(cut)
    there = inner_heads(wanted)
    # The longest of the forks that are too many has no other fork below it, and the shortest of those that are
    # lacking is a head by then: exchanging both moves the two heads of the fork and leaves all others.
    spare = sorted([head for head in here if head not in there], key=len, reverse=True)
    lacking = sorted([head for head in there if head not in here], key=len)
    return list(zip(spare, lacking))


def inner_heads(cut):
    """Tell the heads, as keys, that have a head of a cut below them other than themselves: where the cut forks."""
    return {head[:many]: True for head in cut for many in range(len(head))}


def reordering(reached, wanted):
    """Tell pairs of heads that lead the heads of a cut to the same ones in another order."""
    pairs = []
    for place, goal in enumerate(wanted):
        here = reached[place]
        if here != goal:
            pairs.append((here, goal))
            reached = [exchanged(head, here, goal) for head in reached]
    return pairs


def exchanged(head, one, other):
    """Tell where a head goes by the plain exchange of two heads; one that goes apart is told as it is."""
    if head.startswith(one):
        return other + head[len(one):]
    if head.startswith(other):
        return one + head[len(other):]
    return head


def done(pairs):
    """Tell the exchange of plain ones, one behind another, that pairs of heads of any length tell."""
    for one, other in pairs:
        need_signs(one)
        need_signs(other)
        if not stand_apart(one, other):
            raise NotApart("one head is below the other one")
    # A rule leads the rows under its head, but for those under a longer head of a rule. So a plain exchange is
    # three rules, however long its heads are, where a table may have thousands of rows.
    rules = {"": ""}
    for one, other in pairs:
        rules = living(exchanged_rules(rules, one, other))
    return swap_of(rows_of(rules))


def exchanged_rules(rules, one, other):
    """Tell the rules of what rules do and then the plain exchange of two heads."""
    told = {}
    for head, goal in rules.items():
        told[head] = exchanged(goal, one, other)
        for begin, end in ((one, other), (other, one)):
            below = head + begin[len(goal):]
            if begin.startswith(goal) and upper_rule(rules, below) == head:
                told[below] = end
    return told


def upper_rule(rules, head):
    """Tell the head of the rule that holds at a head, or None where none does."""
    return max([upper for upper in rules if head.startswith(upper)], key=len, default=None)


def living(rules):
    """Tell those rules by which some row is led: others hold nothing but what longer heads of rules take away."""
    deepest = max([len(head) for head in rules])
    room = {}
    above = []
    for head in sorted(rules):
        while above and not head.startswith(above[-1]):
            above.pop()
        room[head] = 1 << (deepest - len(head))
        if above:
            room[above[-1]] -= room[head]
        above.append(head)
    return {head: rules[head] for head in rules if room[head] > 0}


def rows_of(rules):
    """Tell the fewest rows, by their heads, of what rules do, and refuse too many."""
    told = []
    left = [""]
    while left:
        # Of each head that is left one row comes at least.
        if len(told) + len(left) > MOST_ROWS:
            raise TooGreat(f"an exchange has at most {MOST_ROWS} fewest rows")
        head = left.pop()
        other = led_by(rules, head)
        if other is None:
            left.append(head + "1")
            left.append(head + "0")
        else:
            told.append((head, other))
    return told


def led_by(rules, head):
    """Tell the head to which all that is under a head goes by rules, or None where it goes apart."""
    inner = {below: rules[below] for below in rules if below.startswith(head)}
    upper = upper_rule(rules, head)
    if upper is not None:
        inner[head] = rules[upper] + head[len(upper):]
    inner = living(inner)
    goals = [stem_of(goal, below[len(head):]) for below, goal in inner.items()]
    return goals[0] if all([goal == goals[0] for goal in goals]) else None


def stem_of(goal, rest):
    """Tell the head that becomes another one by some signs behind it, or None where there is none."""
    return goal[:len(goal) - len(rest)] if goal.endswith(rest) else None
