"""What .ci/run ends with: 0 where no test fails, and another number else."""

import os
import shutil
import subprocess
import tempfile
import unittest
from pathlib import Path

SCRIPT = Path(__file__).resolve().parent.parent / ".ci" / "run"

GOOD = "import unittest\nimport roundsides\n\n\nclass A(unittest.TestCase):\n    def test_a(self):\n        pass\n"
BAD = GOOD.replace("pass", "self.fail()")
BROKEN = "import roundsides.nowhere\n"
EMPTY = "import unittest\n"


class Run(unittest.TestCase):
    def ended(self, own, shared):
        """What the script ends with in a small project of its own, with these files of tests."""
        with tempfile.TemporaryDirectory() as folder:
            main = Path(folder) / "main"
            for inner in (".ci", "tests", "roundsides"):
                (main / inner).mkdir(parents=True)
            shutil.copy(SCRIPT, main / ".ci" / "run")
            (main / "roundsides" / "__init__.py").write_text("")
            (main / "tests" / "__init__.py").write_text("")
            for name, text in own.items():
                (main / "tests" / name).write_text(text)
            for name, text in (shared or {}).items():
                path = Path(folder) / "shared" / "tests" / name
                path.parent.mkdir(parents=True, exist_ok=True)
                path.write_text(text)
            clean = {name: worth for name, worth in os.environ.items() if name != "PYTHONPATH"}
            done = subprocess.run(
                ["bash", ".ci/run"], cwd=main, env=clean, stdin=subprocess.DEVNULL,
                stdout=subprocess.PIPE, stderr=subprocess.STDOUT, check=False,
            )
            left = [path for path in Path(folder).rglob("__pycache__")]
            self.assertEqual(left, [])
            return done.returncode

    def test_all_pass(self):
        self.assertEqual(self.ended({"test_a.py": GOOD}, None), 0)
        self.assertEqual(self.ended({"test_a.py": GOOD}, {"README.md": "none yet\n"}), 0)
        self.assertEqual(self.ended({"test_a.py": GOOD}, {"test_a.py": GOOD, "test_b.py": GOOD}), 0)
        self.assertEqual(self.ended({"test_a.py": GOOD}, {"test_a.py": GOOD, "more/test_a.py": GOOD}), 0)
        self.assertEqual(self.ended({"test_a.py": GOOD}, {"test_a.py": EMPTY}), 0)

    def test_an_own_test_fails(self):
        self.assertNotEqual(self.ended({"test_a.py": BAD}, None), 0)
        self.assertNotEqual(self.ended({"test_a.py": GOOD, "test_b.py": BAD}, {"test_a.py": GOOD}), 0)
        self.assertNotEqual(self.ended({"test_a.py": BROKEN}, {"test_a.py": GOOD}), 0)

    def test_a_shared_test_fails(self):
        self.assertNotEqual(self.ended({"test_a.py": GOOD}, {"test_a.py": BAD}), 0)
        self.assertNotEqual(self.ended({"test_a.py": GOOD}, {"test_a.py": GOOD, "test_z.py": BAD}), 0)
        self.assertNotEqual(self.ended({"test_a.py": GOOD}, {"test_a.py": BAD, "test_z.py": GOOD}), 0)
        self.assertNotEqual(self.ended({"test_a.py": GOOD}, {"test_a.py": BROKEN}), 0)
        self.assertNotEqual(self.ended({"test_a.py": GOOD}, {"test_a.py": GOOD, "more/test_a.py": BAD}), 0)
        self.assertNotEqual(self.ended({"test_a.py": GOOD}, {"test_a-b 1.py": BAD}), 0)


if __name__ == "__main__":
    unittest.main()
