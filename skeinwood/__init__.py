"""Skeinwood: texts kept as trees of pieces, joined, cut and taken back."""
