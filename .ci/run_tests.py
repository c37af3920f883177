"""Run every test beside the package and every test under ../shared/tests."""

import os
import subprocess
import sys

ROOT = os.path.dirname(os.path.dirname(os.path.abspath(__file__)))


def test_files(folder):
    found = []
    for path, _, names in os.walk(folder):
        for name in names:
            if name.startswith("test_") and name.endswith(".py"):
                found.append(os.path.join(path, name))
    return sorted(found)


def run_file(path, least):
    """Run one file by itself, so that files of the same name don't meet; it is to hold so many tests."""
    folder, name = os.path.split(path)
    command = [sys.executable, "-m", "unittest", name[:-len(".py")]]
    env = dict(os.environ, PYTHONPATH=ROOT, PYTHONDONTWRITEBYTECODE="1")
    done = subprocess.run(command, cwd=folder, env=env, capture_output=True, text=True)
    told = done.stdout + done.stderr
    ran = 0
    for line in told.splitlines():
        if line.startswith("Ran ") and " test" in line:
            ran = int(line.split()[1])
    # Some Pythons end with 5 where a file holds no test.
    good = ran >= least and (done.returncode == 0 or (done.returncode == 5 and ran == 0))
    print(f"{os.path.relpath(path, ROOT)}: {ran} tests, {'ok' if good else 'FAILED'}", flush=True)
    if not good:
        print(told, flush=True)
    return good


def main():
    own = test_files(os.path.join(ROOT, "tests"))
    shared = test_files(os.path.join(ROOT, "..", "shared", "tests"))
    told = [run_file(path, 1) for path in own] + [run_file(path, 0) for path in shared]
    passed = told.count(True)
    print(f"files of tests: {len(own)} own, {len(shared)} shared")
    print(f"{passed} passed, {len(told) - passed} failed")
    sys.exit(0 if own and passed == len(told) else 1)


main()
