"""Runs the tests of one folder; fails if one of them fails or if there is none."""

import sys
import unittest


def main(folder, top):
    suite = unittest.defaultTestLoader.discover(folder, pattern="test_*.py", top_level_dir=top)
    result = unittest.TextTestRunner(stream=sys.stdout).run(suite)
    failed = len(result.failures) + len(result.errors) + len(result.unexpectedSuccesses)
    passed = result.testsRun - failed - len(result.skipped)
    print(f"{passed} passed, {failed} failed, {len(result.skipped)} skipped", flush=True)
    return 0 if result.wasSuccessful() and result.testsRun > 0 else 1


if __name__ == "__main__":
    sys.exit(main(sys.argv[1], sys.argv[2]))
