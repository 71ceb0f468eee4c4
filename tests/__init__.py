"""Tests of the package hiddenties: `python3 -m unittest discover -s tests -t .`."""
