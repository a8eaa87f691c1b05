"""Runs every test file of the project and of ../shared/tests, and counts.

Each file runs in a Python of its own: two files may have the same name, and
one that ends its Python early must not hide what the others would tell.
"""

import os
import subprocess
import sys
import unittest

TESTS = os.path.dirname(os.path.abspath(__file__))
ROOT = os.path.dirname(TESTS)
SHARED = os.path.join(os.path.dirname(ROOT), "shared", "tests")
TALLY = "tally of this file:"


class Counting(unittest.TextTestResult):
    """A result that also knows how many tests passed."""

    passed = 0

    def addSuccess(self, test):
        super().addSuccess(test)
        self.passed += 1

    def addExpectedFailure(self, test, err):
        super().addExpectedFailure(test, err)
        self.passed += 1


def test_files(folder):
    """All files test_*.py under a folder, in order; none where it is missing."""
    found = []
    for place, _, names in os.walk(folder):
        found += [os.path.join(place, name) for name in names
                  if name.startswith("test_") and name.endswith(".py")]
    return sorted(found)


def run_here(path):
    """Runs one file in this Python and prints its tally as the last line."""
    sys.path[:0] = [os.path.dirname(path), ROOT]
    name = os.path.basename(path)[:-len(".py")]
    suite = unittest.defaultTestLoader.loadTestsFromName(name)
    runner = unittest.TextTestRunner(stream=sys.stdout, resultclass=Counting)
    result = runner.run(suite)
    failed = len(result.failures) + len(result.errors) + len(result.unexpectedSuccesses)
    print(TALLY, result.passed, failed, len(result.skipped), flush=True)


def run_apart(path):
    """Runs one file in a Python of its own: (passed, failed, skipped)."""
    print("==", os.path.relpath(path, ROOT), flush=True)
    done = subprocess.run([sys.executable, "-B", os.path.abspath(__file__), path],
                          cwd=ROOT, stdin=subprocess.DEVNULL, text=True, errors="replace",
                          stdout=subprocess.PIPE, stderr=subprocess.STDOUT)
    lines = done.stdout.splitlines()
    tally = lines.pop() if lines and lines[-1].startswith(TALLY) else None
    print("\n".join(lines), flush=True)
    if tally is None or done.returncode != 0:
        print("FAILED: the file did not run to its end", flush=True)
        return 0, 1, 0
    return tuple(int(word) for word in tally[len(TALLY):].split())


def run_all():
    """Runs all files; whether some test ran and none failed."""
    told = [run_apart(path) for path in test_files(TESTS) + test_files(SHARED)]
    passed, failed, skipped = (sum(row[at] for row in told) for at in range(3))
    print(f"{passed} passed, {failed} failed" + (f", {skipped} skipped" if skipped else ""))
    return passed > 0 and failed == 0


if __name__ == "__main__":
    if len(sys.argv) > 1:
        run_here(sys.argv[1])
    else:
        sys.exit(0 if run_all() else 1)
