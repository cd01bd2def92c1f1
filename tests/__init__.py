"""The tests of stayorgo."""
