"""Rateplan: talks fetched by stretches, at rates that suit the road."""
