"""Onesolid: one form for each set of points told by linear inequalities."""
