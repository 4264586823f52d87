"""The least space of polynomials that fits told heights and derivatives at any spots."""
