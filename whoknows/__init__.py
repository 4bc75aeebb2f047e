"""Who knows what: models of what agents take for possible, and formulas about them."""
