"""Leastcode: a loop as one register program, right and least for every number of rounds."""
