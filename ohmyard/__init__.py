"""Ohmyard: nets of wires, told exactly by fractions."""
