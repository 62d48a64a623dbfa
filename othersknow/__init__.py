"""Othersknow: machines that stand in for one another."""
