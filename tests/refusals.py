"""What several tests ask of a call that is to be refused."""

import unittest

from loafshares.errors import NoName, Ring, Twice, Unknown


class Refusals(unittest.TestCase):
    def no_name(self, who, call, *given, **named):
        with self.assertRaises(NoName) as caught:
            call(*given, **named)
        self.assertIs(caught.exception.who, who)

    def twice(self, who, call, *given):
        with self.assertRaises(Twice) as caught:
            call(*given)
        self.assertEqual(caught.exception.who, who)

    def unknown(self, where, who, call, *given):
        with self.assertRaises(Unknown) as caught:
            call(*given)
        self.assertEqual((caught.exception.where, caught.exception.who), (where, who))

    def ring(self, made, call, *given):
        """made are the doughs that the refused book would have."""
        with self.assertRaises(Ring) as caught:
            call(*given)
        names = caught.exception.names
        self.assertIs(type(names), tuple)
        self.assertGreaterEqual(len(names), 1)
        self.assertEqual(len(set(names)), len(names))
        rows = {dough.name(): [thing for thing, _ in dough.rows()] for dough in made}
        for at, name in enumerate(names):
            self.assertIn(names[(at + 1) % len(names)], rows[name])
        return names
