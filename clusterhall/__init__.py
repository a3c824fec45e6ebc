"""Clusterhall: houses that run gangs of tasks, by rank and share."""
