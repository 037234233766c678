"""Templates: constraint satisfaction by polymorphisms."""
