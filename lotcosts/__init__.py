"""Lotcosts: what sales cost, for all prices."""
