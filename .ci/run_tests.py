"""Run each test file of the project and of ../shared/tests, and count the tests."""

import os
import pathlib
import re
import subprocess
import sys

ROOT = pathlib.Path(__file__).resolve().parent.parent
FOLDERS = [ROOT / "tests", ROOT.parent / "shared" / "tests"]
# What unittest exits with, from Python 3.12 on, where a file holds no test.
NO_TEST = 5


def number_behind(word, text):
    found = re.search(word + r"(\d+)", text)
    return int(found.group(1)) if found else 0


def run_file(path):
    """How many tests of a file passed, failed and were skipped."""
    # Each file has a process of its own, so files of one name in two folders don't clash.
    done = subprocess.run(
        [sys.executable, "-m", "unittest", path.stem], cwd=path.parent, stdin=subprocess.DEVNULL,
        env=dict(os.environ, PYTHONPATH=str(ROOT)), stdout=subprocess.PIPE, stderr=subprocess.STDOUT,
        encoding="utf-8", errors="replace")
    closing = done.stdout[done.stdout.rfind("\nRan "):]
    ran = number_behind("Ran ", closing)
    skipped = number_behind("skipped=", closing)
    failed = 0
    if done.returncode != 0 and not (done.returncode == NO_TEST and ran == 0):
        # A file whose run broke off has failed, though it counts no failure.
        words = ("failures=", "errors=", "unexpected successes=")
        failed = max(1, sum(number_behind("[(,] ?" + word, closing) for word in words))
        print(done.stdout)
    passed = max(0, ran - skipped - failed)
    print(f"{path.relative_to(ROOT.parent)}: {ran} run, {failed} failed", flush=True)
    return passed, failed, skipped


def main():
    passed = failed = skipped = 0
    for folder in FOLDERS:
        files = sorted(folder.rglob("test_*.py")) if folder.is_dir() else []
        if folder == FOLDERS[0] and not files:
            print("the project has no test")
            failed += 1
        for path in files:
            counts = run_file(path)
            passed += counts[0]
            failed += counts[1]
            skipped += counts[2]
    print(f"{passed} passed, {failed} failed, {skipped} skipped")
    return 1 if failed or not passed else 0


if __name__ == "__main__":
    sys.exit(main())
