"""Crossnest: where values live, for all runs of procedures that stop and are resumed."""
