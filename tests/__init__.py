"""The tests of boxregions."""
