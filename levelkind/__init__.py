"""The kinds of level surfaces in grids of halved cells."""
