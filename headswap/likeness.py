"""Whether two exchanges are one, seen through a third one."""

from headswap.courses import Course
from headswap.heads import is_cut, only_signs
from headswap.matching import Matching, matched_heads, settle
from headswap.shapes import form_text, shapes_of, ways_out
from headswap.tables import fewest_rows, joined, turned


def alike(one, other):
    """Tell rows of an exchange by which, seen through it, the one is the other, or None where there is none."""
    here = Course(one)
    there = Course(other)
    if form_text(here) != form_text(there):
        return None
    matching = Matching()
    goals = {many: arc for arc, many in there.loops().items()}
    for arc, many in here.loops().items():
        matching.add_span((arc, 0, ""), (goals[many], 0, ""), many)
    for shape, same in zip(shapes_of(here), shapes_of(there)):
        match_shapes(matching, here, there, shape, same)
    return fewest_rows(matched_heads(matching, (here, there)))


def match_shapes(matching, here, there, shape, same):
    """Match the gates of a shape with those of one that is alike."""
    goals = dict(zip(shape.line_up, same.line_up))
    lags = lags_between(here, shape, same)
    for knot in shape.line_up:
        for way in ways_out(here.net, knot):
            arc = here.outgoing[(knot, way)]
            begin, end, many = here.net.lines[arc]
            goal = there.outgoing[(goals[knot], way)]
            if many > 0:
                settle(matching, there, (arc, 0, ""), (goal, lags[knot], ""), many)


def lags_between(course, shape, same):
    """Tell, by each knot of a shape, how many gates beyond the like knot stands what the first gate behind it is."""
    lags = {knot: shape.met[knot] - same.met[goal] for knot, goal in zip(shape.line_up, same.line_up)}
    # All may be moved together. What is moved along a ring gets the more signs the fewer gates the ring has.
    still = min([ring for ring in course.rings() if ring.entry in lags], key=lambda ring: ring.gates_round())
    base = lags[still.entry]
    return {knot: lag - base for knot, lag in lags.items()}


def shows(one, other, rows):
    """Tell whether rows are the table of an exchange by which, seen through it, the one is the other."""
    table = sorted([(head, goal) for head, goal in rows])
    heads = [head for head, goal in table]
    goals = [goal for head, goal in table]
    if not all([only_signs(text) for text in heads + goals]) or not is_cut(heads) or not is_cut(goals):
        return False
    return tuple(joined(joined(turned(table), one.table), table)) == other.table


def stamp(swap):
    """Tell a text that is the same for two exchanges just where they are alike."""
    return form_text(Course(swap))
