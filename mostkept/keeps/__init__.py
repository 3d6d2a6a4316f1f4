"""Greatest keeps, with papers that show that they are greatest."""
