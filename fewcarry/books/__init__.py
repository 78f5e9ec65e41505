"""Books: tables of weighted rows of whole numbers, and what can be said of them."""
