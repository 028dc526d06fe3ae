"""The tests of debtsheld."""
