"""Cellrises: forms on cells, joined by measures, for all partings."""
