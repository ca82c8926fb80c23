// Package judge tells whether a text is right.
package judge

import (
	"relay/api"
	"relay/tree"
)

// Text answers the program that a text is, or else the error and its place in the text.
func Text(text string) (tree.Program, api.Errno, int) {
	if len(text) > api.MaxText {
		return tree.Program{}, api.ErrLong, 0
	}
	p, at, ok := tree.Parse(text)
	if !ok {
		return tree.Program{}, api.ErrText, at
	}
	e, at := meaning(&p)
	if e != api.OK {
		return tree.Program{}, e, at
	}
	return p, api.OK, 0
}

// meaning goes by the order of the errors: each search relies on what the ones ahead of it have ruled out.
func meaning(p *tree.Program) (api.Errno, int) {
	at, found := tooMany(p)
	if found {
		return api.ErrMany, at
	}
	at, found = badName(p)
	if found {
		return api.ErrName, at
	}
	at, found = badType(p)
	if found {
		return api.ErrType, at
	}
	at, found = cycle(p)
	if found {
		return api.ErrCycle, at
	}
	at, found = loop(p)
	if found {
		return api.ErrLoop, at
	}
	return api.OK, 0
}

func tooMany(p *tree.Program) (int, bool) {
	for _, d := range p.Decls {
		most := api.MaxEqs
		if d.Kind == tree.Input {
			most = api.MaxIns
		}
		if d.Number >= most {
			return d.At, true
		}
	}
	return 0, false
}

// badName goes through the names in the order in which they stand: a declaration's own name, then those in its EXPR.
func badName(p *tree.Program) (int, bool) {
	for i, d := range p.Decls {
		if p.Find(d.Name) != i {
			return d.At, true
		}
		for _, n := range p.Nodes[d.Root:d.End] {
			if n.Kind == tree.Name && n.Decl < 0 {
				return n.At, true
			}
		}
	}
	return 0, false
}
