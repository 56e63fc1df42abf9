"""Rows of basins with weirs between them, decided for all orders of openings and all lengths."""
