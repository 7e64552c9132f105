"""What a delete does through references, decided for all databases."""
