"""Manysights: what parties who see a hidden deal in part can know, tell, hide and promise."""
