// Package streams tells the values of a program's equations, instant by instant.
package streams

import (
	"relay/order"
	"relay/reckon"
	"relay/tree"
)

// beat: the values of all nodes at the instant k, and at the one before it.
type beat struct {
	k      int
	now    []int
	before []int
}

// Of lists for each equation of a right text its values at the instants 0 to n - 1. ins[i][k] is element k of input i.
func Of(p *tree.Program, ins [][]int, n int) [][]int {
	equations := p.Equations()
	rows := make([][]int, len(equations))
	for i := range rows {
		rows[i] = make([]int, n)
	}
	turns := order.Of(p)
	before := make([]int, len(p.Nodes))
	for k := 0; k < n; k++ {
		b := beat{k: k, now: make([]int, len(p.Nodes)), before: before}
		fill(p, ins, turns, &b)
		for i, d := range equations {
			rows[i][k] = b.now[d.Root]
		}
		before = b.now
	}
	return rows
}

// fill works the nodes out, parts ahead of wholes. What follows a fby comes last: it may name any equation at all, and nothing else asks for it at this instant.
func fill(p *tree.Program, ins [][]int, turns []int, b *beat) {
	for _, turn := range turns {
		d := p.Decls[turn]
		for i := d.End - 1; i >= d.Root; i-- {
			if !p.Nodes[i].Delayed {
				b.now[i] = value(p, ins, i, b)
			}
		}
	}
	for i := len(p.Nodes) - 1; i >= 0; i-- {
		if p.Nodes[i].Delayed {
			b.now[i] = value(p, ins, i, b)
		}
	}
}

func value(p *tree.Program, ins [][]int, node int, b *beat) int {
	n := p.Nodes[node]
	switch n.Kind {
	case tree.Name:
		d := p.Decls[n.Decl]
		if d.Kind == tree.Input {
			return element(ins, d.Number, b.k)
		}
		return b.now[d.Root]
	case tree.Not:
		return reckon.Not(b.now[n.A])
	case tree.If:
		return reckon.Choose(b.now[n.A], b.now[n.B], b.now[n.C])
	case tree.Fby:
		if b.k == 0 {
			return b.now[n.A]
		}
		return b.before[n.B]
	case tree.Infix:
		return reckon.Pair(n.Op, b.now[n.A], b.now[n.B])
	}
	return n.Value // a number or a truth
}

func element(ins [][]int, input int, k int) int {
	if input >= len(ins) || k >= len(ins[input]) {
		return 0
	}
	return ins[input][k]
}
