"""Claims that one book carries another one, and certificates that prove them."""
