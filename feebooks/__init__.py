"""Fees and accounts: what an office is told of its fees, and what follows from it."""
