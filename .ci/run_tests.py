"""Runs the tests of tests/ and of ../shared/tests, in whatever folders they stand there."""

import pathlib
import sys
import unittest

ROOT = pathlib.Path(__file__).resolve().parent.parent
PLACES = (ROOT / "tests", ROOT.parent / "shared" / "tests")


def folders_of(place):
    return sorted({path.parent for path in place.rglob("test_*.py")})


def load(folder):
    """The tests of one folder; a loader of its own, since a loader keeps its first top folder."""
    sys.path.insert(0, str(folder))
    top = str(ROOT) if ROOT in folder.parents else str(folder)
    names = sorted(path for path in folder.glob("test_*.py"))
    suite = unittest.TestSuite()
    for path in names:
        suite.addTests(unittest.TestLoader().discover(str(folder), pattern=path.name, top_level_dir=top))
        # Two folders may have files of one name: the second must not be taken for the first.
        if top == str(folder):
            sys.modules.pop(path.stem, None)
    sys.path.remove(str(folder))
    return suite


def main():
    sys.path.insert(0, str(ROOT))
    suite = unittest.TestSuite()
    for place in PLACES:
        for folder in folders_of(place):
            suite.addTests(load(folder))
    result = unittest.TextTestRunner(verbosity=1).run(suite)
    failed = len(result.failures) + len(result.errors) + len(result.unexpectedSuccesses)
    skipped = len(result.skipped)
    print(f"{result.testsRun - failed - skipped} passed, {failed} failed, {skipped} skipped")
    if result.testsRun == 0:
        print("no test was found")
        return 1
    return 0 if result.wasSuccessful() else 1


if __name__ == "__main__":
    sys.exit(main())
