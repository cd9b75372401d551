"""The tests of gathermill."""
