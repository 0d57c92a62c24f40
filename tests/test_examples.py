"""The examples of the document, as it shows them, with the answers that it shows."""

import doctest
import os
import unittest

HERE = os.path.dirname(os.path.abspath(__file__))


class Examples(unittest.TestCase):

    def check(self, name):
        with open(os.path.join(HERE, name), encoding="utf-8") as file:
            self.check_text(name, file.read())

    def check_text(self, name, text):
        test = doctest.DocTestParser().get_doctest(text, {}, name, name, 0)
        self.assertTrue(test.examples)
        said = []
        result = doctest.DocTestRunner(verbose=False).run(test, out=said.append)
        self.assertEqual(result.failed, 0, "".join(said))

    def test_section_4(self):
        self.check("section_4.txt")

    def test_section_5(self):
        self.check("section_5.txt")

    def test_section_6(self):
        self.check("section_6.txt")

    def test_section_7(self):
        self.check("section_7.txt")

    def test_section_8(self):
        self.check("section_8.txt")

    def test_section_9(self):
        self.check("section_9.txt")

    def test_section_10(self):
        self.check("section_10.txt")

    def test_section_11(self):
        self.check("section_11.txt")

    def test_section_12(self):
        self.check("section_12.txt")

    def test_section_13(self):
        self.check("section_13.txt")

    def test_section_14(self):
        self.check("section_14.txt")

    def test_section_15(self):
        self.check("section_15.txt")

    def test_those_of_the_readme(self):
        with open(os.path.join(HERE, "..", "README.md"), encoding="utf-8") as file:
            self.check_text("README.md", file.read().replace("```", ""))


if __name__ == "__main__":
    unittest.main()
