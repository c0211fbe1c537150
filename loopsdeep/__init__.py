"""Loopsdeep: how deep loops must nest. Import from the modules of this package."""
