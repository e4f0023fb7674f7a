"""Wallplan: walls that join and are moved, and no room lost."""
