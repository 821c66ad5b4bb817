"""What .ci/run does: every test of the project, every test under ../shared/tests, and a failure if one fails."""

import os
import pathlib
import shutil
import subprocess
import tempfile
import unittest

SCRIPT = pathlib.Path(__file__).resolve().parent.parent / ".ci" / "run"
PASSES = "pass"
FAILS = "self.fail()"

TEST = """import unittest
import wishshelves


class OneTest(unittest.TestCase):
    def test_one(self):
        print("ran {name}", wishshelves.WORD)
        {row}
"""


class RunTest(unittest.TestCase):
    def setUp(self):
        self.top = pathlib.Path(tempfile.mkdtemp())
        self.addCleanup(shutil.rmtree, self.top)
        self.write("main/wishshelves/__init__.py", "WORD = 'here'\n")
        (self.top / "main" / ".ci").mkdir()
        shutil.copy(SCRIPT, self.top / "main" / ".ci" / "run")

    def write(self, path, text):
        target = self.top / path
        target.parent.mkdir(parents=True, exist_ok=True)
        target.write_text(text)

    def add(self, path, row=PASSES):
        self.write(path, TEST.format(name=path, row=row))

    def run_script(self):
        done = subprocess.run(
            ["bash", ".ci/run"], cwd=self.top / "main", stdin=subprocess.DEVNULL, stdout=subprocess.PIPE,
            stderr=subprocess.STDOUT, text=True, env={"PATH": os.environ["PATH"]})
        return done.returncode, done.stdout

    def ran(self, *paths):
        code, told = self.run_script()
        for path in paths:
            self.assertIn(f"ran {path} here", told)
        return code

    def test_every_test_of_the_project_and_of_shared_is_run(self):
        paths = ["main/tests/test_a.py", "main/tests/test_b.py", "main/tests/more/test_c.py",
                 "shared/tests/test_a.py", "shared/tests/test_d.py", "shared/tests/some more/test_e.py"]
        for path in paths:
            self.add(path)
        self.assertEqual(self.ran(*paths), 0)

    def test_a_failure_anywhere_fails_it_and_the_others_are_run(self):
        paths = ["main/tests/test_a.py", "main/tests/test_b.py", "main/tests/more/test_c.py",
                 "shared/tests/test_a.py", "shared/tests/test_d.py", "shared/tests/some more/test_e.py"]
        for wrong in paths:
            for path in paths:
                self.add(path, FAILS if path == wrong else PASSES)
            self.assertNotEqual(self.ran(*paths), 0, wrong)

    def test_a_file_that_cannot_be_imported_fails_it(self):
        for path in ("main/tests/test_b.py", "shared/tests/test_b.py"):
            self.add("main/tests/test_a.py")
            self.write(path, "import wishshelves.there_is_no_such_file\n")
            self.assertNotEqual(self.run_script()[0], 0)
            (self.top / path).unlink()

    def test_shared_need_not_be_there(self):
        self.add("main/tests/test_a.py")
        self.assertEqual(self.ran("main/tests/test_a.py"), 0)
        self.write("shared/tests/README.md", "no test\n")
        self.assertEqual(self.ran("main/tests/test_a.py"), 0)

    def test_a_project_without_tests_fails_it(self):
        self.assertNotEqual(self.run_script()[0], 0)
        self.write("main/tests/helper.py", "")
        self.add("shared/tests/test_a.py")
        self.assertNotEqual(self.run_script()[0], 0)

    def test_a_test_that_reads_its_input_takes_nothing_away(self):
        self.add("main/tests/test_a.py", "__import__('sys').stdin.read()")
        self.add("main/tests/more/test_c.py")
        self.add("main/tests/other/test_d.py")
        self.assertEqual(self.ran("main/tests/more/test_c.py", "main/tests/other/test_d.py"), 0)

    def test_the_package_folder_stays_as_it_is(self):
        self.add("main/tests/test_a.py")
        self.assertEqual(self.run_script()[0], 0)
        self.assertEqual(os.listdir(self.top / "main" / "wishshelves"), ["__init__.py"])


if __name__ == "__main__":
    unittest.main()
