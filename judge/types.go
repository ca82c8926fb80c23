package judge

import (
	"relay/api"
	"relay/tree"
)

// badType goes through the nodes once: each comes behind the one that says what is wanted at it.
func badType(p *tree.Program) (int, bool) {
	truth := make([]bool, len(p.Nodes)) // whether a truth is wanted at the node
	for _, d := range p.Decls {
		if d.Kind == tree.Bool {
			truth[d.Root] = true
		}
	}
	for i, n := range p.Nodes {
		if !fits(p, n, truth[i]) {
			return n.At, true
		}
		switch n.Kind {
		case tree.Not:
			truth[n.A] = true
		case tree.If:
			truth[n.A] = true
			truth[n.B] = truth[i]
			truth[n.C] = truth[i]
		case tree.Fby:
			truth[n.A] = truth[i]
			truth[n.B] = truth[i]
		case tree.Infix:
			truth[n.A] = takesTruths(n.Op)
			truth[n.B] = takesTruths(n.Op)
		}
	}
	return 0, false
}

// fits tells whether a node is a truth, if one is wanted, else a number.
func fits(p *tree.Program, n tree.Node, truth bool) bool {
	switch n.Kind {
	case tree.Number:
		return !truth
	case tree.Truth, tree.Not:
		return truth
	case tree.Name:
		return truth == (p.Decls[n.Decl].Kind == tree.Bool)
	case tree.Infix:
		return truth == makesTruth(n.Op)
	}
	return true // if and fby are what is wanted
}

func takesTruths(op int) bool {
	return op == api.And || op == api.Or
}

func makesTruth(op int) bool {
	return op == api.Less || op == api.Same || takesTruths(op)
}
