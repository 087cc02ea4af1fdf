"""Runs all files test_*.py of one folder; fails if a test fails or if there is none."""

import sys
import unittest
from pathlib import Path


def main(folder):
    sys.path.insert(0, str(Path(__file__).resolve().parent.parent))
    suite = unittest.TestLoader().discover(folder, pattern="test_*.py", top_level_dir=folder)
    result = unittest.TextTestRunner(stream=sys.stdout).run(suite)
    bad = len(result.failures) + len(result.errors) + len(result.unexpectedSuccesses)
    print(f"tests of {folder}:")
    print(f"{max(result.testsRun - bad - len(result.skipped), 0)} passed, {bad} failed")
    return 0 if result.testsRun and result.wasSuccessful() else 1


if __name__ == "__main__":
    sys.exit(main(sys.argv[1]))
