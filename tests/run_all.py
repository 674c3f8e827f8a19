"""Runs every file test_*.py under the folders that are told; exits with 1 if a test fails.

Each file runs in a process of its own, so that files of equal names do not get in one another's way.
"""

import pathlib
import re
import subprocess
import sys


def run_file(path):
    """Run the tests of a file, and return how many ran and whether all passed."""
    command = [sys.executable, "-W", "error::SyntaxWarning", "-m", "unittest", "discover",
               "-s", str(path.parent), "-t", str(path.parent), "-p", path.name]
    done = subprocess.run(command, stdin=subprocess.DEVNULL, capture_output=True, text=True)
    found = re.search(r"^Ran (\d+) test", done.stderr, re.MULTILINE)
    many = int(found.group(1)) if found else 0
    # From Python 3.12 on, 5 means that the file holds no test.
    passed = done.returncode in (0, 5)
    print(f"{'ok    ' if passed else 'FAILED'} {path} ({many} tests)", flush=True)
    if not passed:
        print(done.stdout + done.stderr, flush=True)
    return many, passed


def main(folders):
    """Run all files, print a closing line, and return the exit code."""
    passed = failed = 0
    for folder in folders:
        for path in sorted(pathlib.Path(folder).resolve().rglob("test_*.py")):
            many, good = run_file(path)
            if good:
                passed += many
            else:
                failed += max(many, 1)
    print(f"{passed} passed, {failed} failed")
    return 1 if failed or not passed else 0


if __name__ == "__main__":
    sys.exit(main(sys.argv[1:]))
