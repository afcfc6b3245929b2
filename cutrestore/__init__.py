"""Machines that work by letters, stopped at any moment, and come up again."""
