"""Sixcells: a floor of cells with six sides each."""
