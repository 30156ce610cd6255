"""Soundyard: planning changes in a yard of parts so that no need is ever unmet."""
