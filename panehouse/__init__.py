"""Panehouse: boxes within boxes, laid out by rules."""
