"""Twonames: a teller and a hearer whose rows fall out of step."""
