"""Fademill: programs on a machine whose cells fade."""
