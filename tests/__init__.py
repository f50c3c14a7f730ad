"""The tests of readagain."""
