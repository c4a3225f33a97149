"""Programs that read a text once and write with text registers, decided for all texts."""
