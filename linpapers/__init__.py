"""Linear inequalities over exact fractions, with a point or a paper."""
