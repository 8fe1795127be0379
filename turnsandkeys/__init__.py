"""Turnsandkeys: a common house, and what it costs to break its promises."""
