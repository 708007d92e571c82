"""Drawclaims: what a few rows show of tables of every size."""
