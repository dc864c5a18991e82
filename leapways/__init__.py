"""Leapways: where a leaping piece comes on an endless board, and the knight's fewest leaps."""
