"""The tests of the package: run `python3 -m unittest` in the folder above."""
