"""What the tests of moves need: an independent reckoning of moves, by steps that point at each other."""

NONE = ("input", "told")


class Node:
    def __init__(self, word, told, sides):
        self.word, self.told, self.sides = word, told, sides


def nodes_of(program):
    nodes = []
    for step in program[1]:
        if step[0] in NONE:
            nodes.append(Node(step[0], step[1], []))
        else:
            nodes.append(Node(step[0], None, [nodes[side] for side in step[1:]]))
    return nodes


def as_steps(nodes):
    place = {id(node): at for at, node in enumerate(nodes)}
    return tuple([
        (node.word, node.told) if node.word in NONE else (node.word,) + tuple([place[id(side)] for side in node.sides])
        for node in nodes
    ])


def replaced(nodes, node, other, but=()):
    """Let all that use a node use another one, but for some."""
    for one in nodes:
        if one not in but:
            one.sides = [other if side is node else side for side in one.sides]


def plain_moved(program, move):
    nodes = nodes_of(program)
    rounds = [node for node in nodes if node.word == "round"]
    result = nodes[-1]
    word = move[0]
    node = nodes[move[1]] if word == "put" else rounds[move[-1]]
    at = nodes.index(node)
    if word == "put":
        other = Node("round", None, [node])
        nodes.insert(at + 1, other)
        replaced(nodes, node, other, [other])
    else:
        argument = node.sides[0]
        if word == "drop":
            other, new = argument, []
        elif word == "join":
            other, new = rounds[move[1]], []
        elif word == "over":
            new = [Node("round", None, [side]) for side in argument.sides]
            other = Node(argument.word, None, list(new))
            new = new + [other]
        else:
            told = 0 if argument.sides[0].word == "told" else 1
            part = Node("round", None, [argument.sides[1 - told]])
            sides = list(argument.sides)
            sides[1 - told] = part
            other = Node("times", None, sides)
            new = [part, other]
        nodes[at:at + 1] = new
        replaced(nodes, node, other, new)
    if result is node:
        result = other
    if nodes[-1] is not result:
        zero = Node("told", (0, 1), [])
        nodes = nodes + [zero, Node("sum", None, [result, zero])]
    return (program[0], as_steps(nodes))


def plain_moves(program):
    steps = program[1]
    rounds = [at for at, step in enumerate(steps) if step[0] == "round"]
    found = []
    for k, at in enumerate(rounds):
        argument = steps[steps[at][1]]
        found.append(("drop", k))
        found.extend(("join", k, l) for l in range(k + 1, len(rounds)) if steps[rounds[l]] == steps[at])
        if argument[0] in ("sum", "less") and len(rounds) < 5:
            found.append(("over", k))
        if argument[0] == "times" and any(steps[side][0] == "told" for side in argument[1:]):
            found.append(("scale", k))
    for at, step in enumerate(steps):
        if len(rounds) < 5 and step[0] not in ("told", "round") and ("round", at) not in steps:
            found.append(("put", at))
    return sorted(found)


def all_behind(program, words, most):
    """The dict from all programs behind at most so many moves to the least tuple of the fewest moves."""
    ways = {program: ()}
    rows = [((), program)]
    for _ in range(most):
        rows = [
            (way + (move,), plain_moved(one, move))
            for way, one in rows for move in plain_moves(one) if move[0] in words
        ]
        for way, one in rows:
            if one not in ways or (len(way), way) < (len(ways[one]), ways[one]):
                ways[one] = way
    return ways
