"""The tests of homeslopes."""
