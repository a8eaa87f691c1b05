"""The tests of Pairhues."""
