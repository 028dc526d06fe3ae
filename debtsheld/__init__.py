"""Debtsheld: purely functional data structures with counted steps."""
