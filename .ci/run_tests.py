"""Runs the files test_*.py of one folder: a word for the closing line, the folder, and the top folder for imports."""

import sys
import unittest


def main(word, folder, top):
    suite = unittest.TestLoader().discover(folder, "test_*.py", top)
    result = unittest.TextTestRunner(stream=sys.stdout).run(suite)
    failed = len(result.failures) + len(result.errors) + len(result.unexpectedSuccesses)
    passed = result.testsRun - failed - len(result.skipped)
    print(f"{word}: {passed} passed, {failed} failed, {len(result.skipped)} skipped", flush=True)
    return 0 if failed == 0 and result.testsRun > 0 else 1


if __name__ == "__main__":
    sys.exit(main(*sys.argv[1:]))
