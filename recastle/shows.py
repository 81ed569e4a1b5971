"""Texts of programs, shapes and rules, as they are written."""

from recastle.trees import LEAF_SIGNS

BETWEEN = {"add": " + ", "sub": " - ", "mul": " * ", "then": " ; "}


def atom_text(atom):
    if atom[0] == "gap":
        return "?" + atom[1]
    return str(atom[1])


def gap_text(gap):
    text = "?" + gap[1]
    if gap[2]:
        text += "[" + " ".join([atom_text(atom) for atom in gap[2]]) + "]"
    return text


def leaf_text(leaf):
    if leaf[0] == "gap":
        return gap_text(leaf)
    if leaf[0] in ("ask", "stop"):
        return "(" + leaf[0] + " " + leaf[1] + ")"
    return str(leaf[1])


def written_row(tree):
    sign = tree[0]
    if sign in LEAF_SIGNS:
        return [leaf_text(tree)]
    if sign == "say":
        return ["(say ", tree[1], ")"]
    if sign == "if":
        return ["(if ", tree[1], " then ", tree[2], " else ", tree[3], ")"]
    if sign == "let":
        return ["(let " + tree[1] + " = ", tree[2], " in ", tree[3], ")"]
    return ["(", tree[1], BETWEEN[sign], tree[2], ")"]


def shown(tree):
    texts = []
    # A row of what is still to be written, not recursion: a tree may be as deep as it has parts.
    waiting = [tree]
    while waiting:
        piece = waiting.pop()
        if isinstance(piece, str):
            texts.append(piece)
        else:
            waiting.extend(written_row(piece)[::-1])
    return "".join(texts)


def shown_rule(rule):
    text = shown(rule[0]) + " -> " + shown(rule[1])
    if rule[2]:
        text += " where " + ", ".join([gap + " " + kind for gap, kind in rule[2]])
    return text
