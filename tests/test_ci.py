"""What .ci/run does, tried on small projects that are laid out as this one is."""

import pathlib
import shutil
import subprocess
import tempfile
import unittest

RUN = pathlib.Path(__file__).resolve().parent.parent / ".ci" / "run"

PASSING = """
import unittest
from picturetide.word import WORD
class Told(unittest.TestCase):
    def test_word(self):
        self.assertEqual(WORD, "tide")
"""

FAILING = PASSING.replace('"tide"', '"ebb"')
BROKEN = "from picturetide.nowhere import nothing\n"


class Project(unittest.TestCase):
    def setUp(self):
        self.folder = pathlib.Path(tempfile.mkdtemp())
        self.addCleanup(shutil.rmtree, self.folder)
        self.write("main/picturetide/__init__.py", "")
        self.write("main/picturetide/word.py", 'WORD = "tide"\n')
        self.write("main/tests/test_own.py", PASSING)
        (self.folder / "main/.ci").mkdir()
        shutil.copy(RUN, self.folder / "main/.ci/run")

    def write(self, name, text):
        path = self.folder / name
        path.parent.mkdir(parents=True, exist_ok=True)
        path.write_text(text)

    def run_ci(self, folder="main", script=".ci/run"):
        return subprocess.run(
            ["bash", script], cwd=self.folder / folder, stdin=subprocess.DEVNULL,
            stdout=subprocess.PIPE, stderr=subprocess.STDOUT, text=True,
        )

    def assert_passes(self, count, **where):
        done = self.run_ci(**where)
        self.assertEqual(done.returncode, 0, done.stdout)
        self.assertEqual(done.stdout.count("Ran 1 test in"), count, done.stdout)

    def assert_fails(self):
        done = self.run_ci()
        self.assertNotEqual(done.returncode, 0, done.stdout)

    def test_without_a_shared_folder(self):
        self.assert_passes(1)

    def test_with_a_shared_folder_that_holds_no_test(self):
        self.write("shared/tests/README.md", "no test yet")
        self.assert_passes(1)

    def test_a_shared_test_runs(self):
        self.write("shared/tests/test_shared.py", PASSING)
        self.assert_passes(2)

    def test_a_shared_test_of_the_same_name_runs(self):
        self.write("shared/tests/test_own.py", PASSING)
        self.assert_passes(2)
        self.write("shared/tests/test_own.py", FAILING)
        self.assert_fails()

    def test_a_shared_test_in_a_folder_within_runs(self):
        self.write("shared/tests/stage/test_shared.py", PASSING)
        self.assert_passes(2)
        self.write("shared/tests/stage/test_shared.py", FAILING)
        self.assert_fails()

    def test_from_another_folder(self):
        self.write("shared/tests/test_shared.py", PASSING)
        self.assert_passes(2, folder=".", script="main/.ci/run")

    def test_a_failing_shared_test(self):
        self.write("shared/tests/test_a.py", FAILING)
        self.write("shared/tests/test_b.py", PASSING)
        self.assert_fails()

    def test_a_shared_test_that_cannot_be_imported(self):
        self.write("shared/tests/test_shared.py", BROKEN)
        self.assert_fails()

    def test_a_failing_test_of_the_project(self):
        self.write("main/tests/test_another.py", FAILING)
        self.write("shared/tests/test_shared.py", PASSING)
        self.assert_fails()

    def test_a_test_of_the_project_that_cannot_be_imported(self):
        self.write("main/tests/test_another.py", BROKEN)
        self.assert_fails()

    def test_a_project_without_tests(self):
        (self.folder / "main/tests/test_own.py").unlink()
        self.write("shared/tests/test_shared.py", PASSING)
        self.assert_fails()

    def test_the_folders_stay_as_they_are(self):
        self.write("shared/tests/test_shared.py", PASSING)
        before = sorted(self.folder.rglob("*"))
        self.run_ci()
        self.assertEqual(sorted(self.folder.rglob("*")), before)


if __name__ == "__main__":
    unittest.main()
