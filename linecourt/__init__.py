"""Linecourt: plain arguments in numbered lines, and a court that checks them."""
