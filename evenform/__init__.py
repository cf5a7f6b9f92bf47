"""Evenform: polynomials that exchanging unknowns leaves as they are."""
