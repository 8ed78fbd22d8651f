"""A key-value store that survives power failures, over a disk that is simulated byte by byte."""
