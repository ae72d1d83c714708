"""The tests of finalblocks."""
