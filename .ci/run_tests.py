"""Runs the tests of a folder: `run_tests.py FOLDER TOP`; fails if one fails, and if there is none."""

import sys
import unittest


def main(folder, top):
    suite = unittest.defaultTestLoader.discover(folder, pattern="test_*.py", top_level_dir=top)
    result = unittest.TextTestRunner(stream=sys.stdout).run(suite)
    failed = len(result.failures) + len(result.errors) + len(result.unexpectedSuccesses)
    print(f"{max(result.testsRun - failed, 0)} passed, {failed} failed", flush=True)
    return 0 if result.wasSuccessful() and result.testsRun else 1


if __name__ == "__main__":
    sys.exit(main(*sys.argv[1:]))
