"""Fenlevel: heights that are sure, whoever was false."""
