// Package bounds tells which bounds fit, and by when a place has made a step in a script that keeps to them.
package bounds

import (
	"relay/api"
	"relay/links"
	"relay/tree"
)

// Fit tells whether bounds can be kept to.
func Fit(b api.Bounds) bool {
	if b.Tmin < 1 || b.Tmax < b.Tmin || b.Tmax > api.MaxSpan {
		return false
	}
	return b.Dmin >= 0 && b.Dmax >= b.Dmin && b.Dmax < b.Tmin
}

// Latest tells by when every place of a right text has made its step k. The bounds fit, so that no product is too great for an int.
func Latest(p *tree.Program, b api.Bounds, k int) int {
	chain := longest(links.Waits(p))
	handing := b.Tmax + b.Dmax
	return b.Tmax + 2*chain*handing + 2*k*(chain+1)*handing
}

// longest counts the links of the longest chain of prompt links. As no place waits for itself, in however many steps, a chain goes to each place once at most, and a round for each place is enough.
func longest(waits [][]bool) int {
	ends := make([]int, len(waits)) // for each place: the links of the longest chain to it, as far as is known
	most := 0
	for range waits {
		for place, row := range waits {
			ends[place] = oneMore(ends, row)
			if ends[place] > most {
				most = ends[place]
			}
		}
	}
	return most
}

// oneMore counts the links of the longest chain to a place from the chains to the places that it waits for.
func oneMore(ends []int, waits []bool) int {
	most := 0
	for from, waited := range waits {
		if waited && ends[from]+1 > most {
			most = ends[from] + 1
		}
	}
	return most
}
