"""checkwright: a workshop for check digits."""
