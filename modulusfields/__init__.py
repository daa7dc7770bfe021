"""Fields made of the zeros of a modulus, over the polynomials modulo a small prime."""
