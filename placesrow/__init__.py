"""The row: who of those that stand in a row gets a place on which day."""
