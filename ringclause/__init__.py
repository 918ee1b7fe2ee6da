"""Ringclause: clauses and bounds between moments, decided with papers."""
