"""Allhelms: all controllers that steady a machine, and what none of them can."""
