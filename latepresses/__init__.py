"""A game of boxes on a floor, played at houses that hear one another late."""
