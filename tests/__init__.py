"""The tests of cabmeters: run them with `bash .ci/run` or `python3 -m unittest`."""
