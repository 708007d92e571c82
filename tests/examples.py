"""Runs examples that are written as in the document: lines behind `>>>`, then what the last one gives."""

import ast


def outcome(text):
    """What an example gives: the repr of its last line, or the error that it raises, and what is written there."""
    lines = text.strip().split("\n")
    code = [line.removeprefix(">>> ") for line in lines[:-1]]
    tree = ast.parse("\n".join(code))
    last = ast.Expression(tree.body.pop().value)
    names = {}
    exec(compile(tree, "example", "exec"), names)
    try:
        found = repr(eval(compile(last, "example", "eval"), names))
    except Exception as error:
        found = "raises " + shown(error, "(" in lines[-1])
    return found, lines[-1]


def shown(error, with_fields):
    fields = ", ".join(f"{name}={value!r}" for name, value in vars(error).items())
    return f"{type(error).__name__}({fields})" if with_fields else type(error).__name__
