"""Runs all tests of a folder and prints, last of all, how many passed and failed: run_tests.py FOLDER."""

import sys
import unittest


def failed_tests(result):
    """The names of the tests that failed: parts of one test count once."""
    bad = [test for test, _ in result.failures + result.errors] + result.unexpectedSuccesses
    return {getattr(test, "test_case", test).id() for test in bad}


def main(folder):
    suite = unittest.defaultTestLoader.discover(folder)
    result = unittest.TextTestRunner(stream=sys.stdout).run(suite)
    failed, skipped = len(failed_tests(result)), len(result.skipped)
    passed = max(result.testsRun - failed - skipped, 0)
    good = result.wasSuccessful() and passed > 0
    if result.testsRun == 0:
        print(f"there is no test in {folder}")
    print(f"{passed} passed, {failed} failed, {skipped} skipped", flush=True)
    return 0 if good else 1


if __name__ == "__main__":
    sys.exit(main(sys.argv[1]))
