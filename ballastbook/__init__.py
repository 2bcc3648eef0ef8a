"""Ballastbook: balloons that drift, what they can reach, and where a lost one can be."""
