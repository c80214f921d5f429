"""Rungbounds: walls of unknown shape, known by ladders that reach or miss."""
