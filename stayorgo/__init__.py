"""Stayorgo: going and staying on a web, within rooms."""
