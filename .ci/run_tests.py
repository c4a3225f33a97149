"""Runs all files test_*.py of tests and of ../shared/tests, and tells at the end how many tests passed and failed."""

import os
import sys
import unittest

sys.dont_write_bytecode = True
ROOT = os.path.dirname(os.path.dirname(os.path.abspath(__file__)))
SHARED = os.path.join(os.path.dirname(ROOT), "shared", "tests")


def folders_with_tests(top):
    """The folders below this one, itself too, that hold a file test_*.py."""
    found = []
    for folder, _, files in os.walk(top):
        if any(name.startswith("test_") and name.endswith(".py") for name in files):
            found.append(folder)
    return sorted(found)


def run(suite):
    return unittest.TextTestRunner(stream=sys.stdout, verbosity=1).run(suite)


def main():
    sys.path.insert(0, ROOT)
    own = unittest.TestLoader().discover(os.path.join(ROOT, "tests"), top_level_dir=ROOT)
    results = [run(own)]
    if results[0].testsRun == 0:
        print("no test of the project was found")
        return 1
    for folder in folders_with_tests(SHARED):
        # a loader of its own for each folder, as files in two of them may have the same name
        for name in [name for name in sys.modules if name.split(".")[0].startswith("test_")]:
            del sys.modules[name]
        results.append(run(unittest.TestLoader().discover(folder, top_level_dir=folder)))
        sys.path.remove(folder)
    failed = sum(len(result.failures) + len(result.errors) + len(result.unexpectedSuccesses) for result in results)
    skipped = sum(len(result.skipped) for result in results)
    passed = sum(result.testsRun for result in results) - failed - skipped
    print(f"{passed} passed, {failed} failed, {skipped} skipped")
    return 0 if all(result.wasSuccessful() for result in results) else 1


if __name__ == "__main__":
    sys.exit(main())
