"""The tests of leavetaking."""
