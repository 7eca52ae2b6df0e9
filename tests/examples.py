"""The examples of the document, as they stand there, and how each one is run."""

import importlib
import os
import re

MODULES = ("errors", "steps", "plans", "runs", "worlds", "free", "why", "orders", "labels", "kept", "changes", "joins", "asked",
           "deeds", "branches", "letters", "readers", "trust", "liars", "turned", "judge", "texts", "board", "desk")


def all_names():
    """All that the files of the interface define, by name."""
    names = {}
    for module in MODULES:
        names.update(vars(importlib.import_module("reportalike." + module)))
    return names


def blocks():
    """Pairs of a point and its lines."""
    path = os.path.join(os.path.dirname(os.path.abspath(__file__)), "examples.txt")
    found = []
    with open(path, encoding="ascii") as file:
        for line in file.read().splitlines():
            if re.fullmatch(r"\[\d+\]", line):
                found.append((line, []))
            elif line:
                found[-1][1].append(line)
    return found


def examples(lines):
    """Pairs of a line that is put and the line that tells what comes of it; None behind an assignment."""
    found = []
    for line in lines:
        if line.startswith(">>> "):
            found.append([line[4:], None])
        else:
            found[-1][1] = line
    return found
