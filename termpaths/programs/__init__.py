"""Programs: points, and edges with actions between them."""
