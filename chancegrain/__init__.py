"""Chancegrain: programs that round by chance, and whose mean is right all the same."""
