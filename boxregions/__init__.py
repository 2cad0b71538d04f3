"""Sets of grid squares made of boxes, with coordinates of any size."""
