"""Networks: nodes that lines of some strength join, treated as books."""
