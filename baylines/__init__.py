"""Baylines: lines of holding bays, and which bays may change places."""
