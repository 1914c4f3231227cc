"""Small helpers of the script for LANGUAGE.md."""

import ast

FUNCTIONS = (ast.FunctionDef, ast.AsyncFunctionDef)
CHANGING = set("append clear extend insert pop remove reverse setdefault update add discard".split())


def nodes(tree, *kinds):
    return [node for node in ast.walk(tree) if isinstance(node, kinds)]


def called(node):
    """Return the bare name that a node calls, None if it calls none."""
    return node.func.id if isinstance(node, ast.Call) and isinstance(node.func, ast.Name) else None


def all_nodes(trees, *kinds):
    return [node for tree in trees.values() for node in nodes(tree, *kinds)]


def owned(trees):
    """Return the methods of all classes."""
    return [node for owner in all_nodes(trees, ast.ClassDef) for node in owner.body if isinstance(node, FUNCTIONS)]


def marks_of(node):
    """Return the decorators of a function as texts."""
    return [ast.unparse(mark) for mark in node.decorator_list]
