"""Hiddenties: equations between unknowns and their growths, sorted ahead of a simulation."""
