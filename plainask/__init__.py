"""Plainask: rounds of questions in which honesty is plainly best."""
