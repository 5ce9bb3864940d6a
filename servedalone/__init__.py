"""A language model served to many, as if each were alone."""
