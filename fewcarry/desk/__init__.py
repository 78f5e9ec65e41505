"""The desk: named books and nets, the deeds that change them, and questions about them."""
