"""Folk roped two by two in a house of rooms."""
