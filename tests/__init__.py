"""The tests of awaitrounds."""
