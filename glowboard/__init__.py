"""Glowboard: a board of cells that shows at each rest what was painted."""
