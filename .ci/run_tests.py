"""Runs the tests of the project, and those under ../shared/tests; each folder of tests in a process of its own."""

import pathlib
import subprocess
import sys
import unittest

ROOT = pathlib.Path(__file__).resolve().parent.parent
SHARED = ROOT.parent / "shared" / "tests"


def test_folders():
    """Return the folders that hold a test; the first one is the project's own."""
    shared = sorted({path.parent for path in SHARED.rglob("test_*.py")}) if SHARED.is_dir() else []
    return [ROOT / "tests", *shared]


def run_files(folder):
    """Run the tests of a folder's files, and return (those that passed, those that failed)."""
    top = ROOT if folder == ROOT / "tests" else folder
    prefix = "tests." if folder == ROOT / "tests" else ""
    sys.path.insert(0, str(top))
    names = [prefix + path.stem for path in sorted(folder.glob("test_*.py"))]
    result = unittest.TextTestRunner(stream=sys.stdout, verbosity=1).run(unittest.defaultTestLoader.loadTestsFromNames(names))
    failed = len(result.failures) + len(result.errors) + len(result.unexpectedSuccesses)
    return (result.testsRun - failed, failed)


def run_folder(folder):
    """Run the tests of a folder in a process of its own; return whether all passed."""
    print(f"tests in {folder}", flush=True)
    return subprocess.run([sys.executable, __file__, str(folder)], check=False).returncode == 0


def main():
    if len(sys.argv) == 2:
        passed, failed = run_files(pathlib.Path(sys.argv[1]))
        print(f"{passed} passed, {failed} failed", flush=True)
        return 1 if failed > 0 or passed == 0 else 0
    fine = [run_folder(folder) for folder in test_folders()]
    return 0 if all(fine) else 1


if __name__ == "__main__":
    sys.exit(main())
