"""The tests of crossinglights."""
