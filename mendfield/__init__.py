"""Mendfield: codes that mend what was wrong and what was lost."""
