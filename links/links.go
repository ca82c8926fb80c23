// Package links tells which equations' values go to which places.
package links

import (
	"relay/api"
	"relay/tree"
)

// Of lists the links of a program, in the order of their numbers.
func Of(p *tree.Program) []api.Route {
	var list []api.Route
	for i, d := range p.Decls {
		if d.Kind == tree.Input {
			continue
		}
		for place := 0; place < api.MaxPlaces; place++ {
			used, prompt := uses(p, i, place)
			if used && place != d.Place {
				list = append(list, api.Route{From: d.Number, To: place, Late: !prompt})
			}
		}
	}
	return list
}

// uses tells whether the name of declaration decl stands in an equation at a place, and whether it stands there anywhere but right behind a fby.
func uses(p *tree.Program, decl int, place int) (bool, bool) {
	used := false
	prompt := false
	for _, d := range p.Decls {
		if d.Kind == tree.Input || d.Place != place {
			continue
		}
		for _, n := range p.Nodes[d.Root:d.End] {
			if n.Kind == tree.Name && n.Decl == decl {
				used = true
				prompt = prompt || !n.Behind
			}
		}
	}
	return used, prompt
}

// Waits tells in row q which places the place q waits for.
func Waits(p *tree.Program) [][]bool {
	waits := make([][]bool, api.MaxPlaces)
	for i := range waits {
		waits[i] = make([]bool, api.MaxPlaces)
	}
	equations := p.Equations()
	for _, r := range Of(p) {
		if !r.Late {
			from := equations[r.From].Place
			waits[r.To][from] = true
		}
	}
	return waits
}
