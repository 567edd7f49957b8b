"""Two filters in any order, judged for all filters and beams."""
