"""One text where several texts are meant, decided for all values."""
