"""Papers of straight lines that show how great, or how small, a mean can be on grains."""

from chancegrain.forms import are_fractions, is_past, is_tuple_of
from chancegrain.fractions import is_less
from chancegrain.grainmeans import edges_by, height_at, line_through, turned
from chancegrain.reaches import multiples, must_be_few, reached_next
from chancegrain.spread import below_zero
from chancegrain.walking import Walk


def turned_lines(paper):
    """Return a PAPER of the same lines, below 0 for above it."""
    return {past: (below_zero(height), below_zero(slope)) for past, (height, slope) in paper.items()}


def upper_paper(program, inputs, grains):
    """Return an UPPER PAPER by which the BOUND of () is the greatest mean."""
    edges = edges_by(program, inputs, grains)
    return {past: line_through(edge) for past, edge in edges.items()}


def lower_paper(program, inputs, grains):
    """Return a LOWER PAPER by which the BOUND of () is the least mean."""
    return turned_lines(upper_paper(turned(program), inputs, grains))


def is_line(thing):
    """Tell whether a value is a straight line (height, slope)."""
    return is_tuple_of(2, thing) and are_fractions(thing)


def pasts_to_come(program, inputs, grains):
    """Return the list of tuples (past, where one stands) of the pasts ON GRAINS that are not full."""
    walk = Walk(program, inputs)
    found = []
    reached = [((), walk.begun())]
    for grain, width in grains:
        found = found + reached
        reached = reached_next(walk, grain, width, reached)
    return found


def is_paper(program, inputs, grains, thing):
    """Tell whether a value is a PAPER."""
    if not isinstance(thing, dict):
        return False
    if not all([is_past(program, past) and is_line(line) for past, line in thing.items()]):
        return False
    pasts = pasts_to_come(program, inputs, grains)
    return len(thing) == len(pasts) and all([past in thing for past, _ in pasts])


def bound_by(walk, paper, past, told):
    """Return the BOUND of a past by a PAPER."""
    if walk.is_over(told):
        return told[-1]
    return height_at(paper[past], walk.argument(told))


def is_never_below(program, inputs, grains, paper):
    """Tell whether no line of a PAPER is less than a BOUND of what can come next."""
    walk = Walk(program, inputs)
    for past, told in pasts_to_come(program, inputs, grains):
        grain, width = grains[len(past)]
        for value in multiples(walk.argument(told), grain, width):
            bound = bound_by(walk, paper, past + (value,), walk.behind(told, value))
            if is_less(height_at(paper[past], value), bound):
                return False
    return True


def is_upper_paper(program, inputs, grains, thing):
    """Tell whether a value is an UPPER PAPER."""
    must_be_few(program, inputs, grains)
    return is_paper(program, inputs, grains, thing) and is_never_below(program, inputs, grains, thing)


def is_lower_paper(program, inputs, grains, thing):
    """Tell whether a value is a LOWER PAPER."""
    must_be_few(program, inputs, grains)
    if not is_paper(program, inputs, grains, thing):
        return False
    return is_never_below(turned(program), inputs, grains, turned_lines(thing))


def paper_bound(program, inputs, paper):
    """Return the BOUND of () by a PAPER."""
    walk = Walk(program, inputs)
    return bound_by(walk, paper, (), walk.begun())
