// Package order tells which equations hang on which, and in what order they can be worked out at an instant.
package order

import "relay/tree"

// Hangs tells in row i which declarations declaration i hangs on. Only equations hang, and only on equations. The names in the program are all declared.
func Hangs(p *tree.Program) [][]bool {
	hangs := make([][]bool, len(p.Decls))
	for i, d := range p.Decls {
		hangs[i] = make([]bool, len(p.Decls))
		for _, n := range p.Nodes[d.Root:d.End] {
			if n.Kind == tree.Name && !n.Delayed && p.Decls[n.Decl].Kind != tree.Input {
				hangs[i][n.Decl] = true
			}
		}
	}
	return hangs
}

// Of lists the equations by the numbers of their declarations, each behind all that it hangs on. An equation that hangs on itself, in however many steps, is left out.
func Of(p *tree.Program) []int {
	hangs := Hangs(p)
	done := make([]bool, len(p.Decls))
	var list []int
	for range p.Decls { // in each round one more, at least, is ready
		for i, d := range p.Decls {
			if d.Kind != tree.Input && !done[i] && ready(hangs[i], done) {
				done[i] = true
				list = append(list, i)
			}
		}
	}
	return list
}

func ready(hangs []bool, done []bool) bool {
	for i, on := range hangs {
		if on && !done[i] {
			return false
		}
	}
	return true
}
