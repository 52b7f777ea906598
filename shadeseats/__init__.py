"""Shadeseats: folk who move as the sun goes."""
