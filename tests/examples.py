"""Runs an example that is written as the document writes it."""


def outcome_of(example):
    """Return what an example gives and what its last row says, both as texts."""
    *rows, expected = example.strip().split("\n")
    *before, last = [row.removeprefix(">>> ") for row in rows]
    names = {}
    try:
        for row in before:
            exec(row, names)
        found = repr(eval(last, names))
    except ValueError as error:
        fields = ", ".join([f"{name}={value!r}" for name, value in vars(error).items()])
        found = f"raises {type(error).__name__}" + (f"({fields})" if fields else "")
    return found, expected
