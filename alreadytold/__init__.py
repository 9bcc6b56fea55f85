"""Houses in which some letters come from later days, decided for all customs."""
