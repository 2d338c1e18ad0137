"""Simplebetween: the simplest fraction between two."""
