"""The tests of Leapways."""
