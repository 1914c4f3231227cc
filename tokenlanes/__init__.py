"""Tokenlanes: numbers from gates that take turns."""
