"""The document's examples, word for word, as one session, and those of README.md."""
import doctest
import os
import unittest

HERE = os.path.dirname(os.path.abspath(__file__))


class Examples(unittest.TestCase):
    def check(self, path, least):
        found = doctest.testfile(path, module_relative=False)
        self.assertEqual(found.failed, 0)
        self.assertGreaterEqual(found.attempted, least)

    def test_session(self):
        self.check(os.path.join(HERE, "session.txt"), 53)

    def test_readme(self):
        self.check(os.path.join(HERE, "..", "README.md"), 4)


if __name__ == "__main__":
    unittest.main()
