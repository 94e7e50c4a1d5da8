"""The tests of onestillview."""
