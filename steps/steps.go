// Package steps writes the step programs of places.
package steps

import (
	"relay/api"
	"relay/links"
	"relay/order"
	"relay/tree"
)

// writer: the code of a place, as far as it is written.
type writer struct {
	program tree.Program
	place   int
	links   []api.Route // to the place
	code    api.Code
	roots   []int // for each declaration that is an equation at the place: the register of its value
	later   []int // for each cell: the node of what it holds next
}

// For writes the step program of a place of a right text. At a place with no equation it is empty.
func For(p *tree.Program, place int) api.Code {
	w := writer{program: *p, place: place, links: arriving(p, place), roots: make([]int, len(p.Decls))}
	for _, turn := range order.Of(p) {
		if p.Decls[turn].Place == place {
			register := w.expr(p.Decls[turn].Root)
			w.roots[turn] = register
		}
	}
	w.next()
	w.out()
	return w.code
}

// arriving lists the links to a place, in the order of their numbers.
func arriving(p *tree.Program, place int) []api.Route {
	var list []api.Route
	for _, r := range links.Of(p) {
		if r.To == place {
			list = append(list, r)
		}
	}
	return list
}

// next comes behind all equations, because what follows a fby may name any of them. It may have a fby in it, and so add to the list that the loop goes through: the loop ends, because each fby of the text is met once.
func (w *writer) next() {
	for i := 0; i < len(w.later); i++ {
		node := w.later[i]
		register := w.expr(node)
		w.code.Next = append(w.code.Next, register)
	}
}

func (w *writer) out() {
	for i, d := range w.program.Decls {
		if d.Kind != tree.Input && d.Place == w.place {
			w.code.Out = append(w.code.Out, w.roots[i])
		}
	}
}

// add writes an operation, and answers its register.
func (w *writer) add(o api.Op) int {
	w.code.Ops = append(w.code.Ops, o)
	return len(w.code.Ops) - 1
}

// expr writes a node, parts ahead of wholes, and answers the register of its value.
func (w *writer) expr(node int) int {
	n := w.program.Nodes[node]
	switch n.Kind {
	case tree.Name:
		return w.name(n)
	case tree.Not:
		a := w.expr(n.A)
		return w.add(api.Op{Kind: api.Not, A: a})
	case tree.If:
		a := w.expr(n.A)
		b := w.expr(n.B)
		c := w.expr(n.C)
		return w.add(api.Op{Kind: api.Choose, A: a, B: b, C: c})
	case tree.Fby:
		return w.delay(n)
	case tree.Infix:
		a := w.expr(n.A)
		b := w.expr(n.B)
		return w.add(api.Op{Kind: n.Op, A: a, B: b})
	}
	return w.constant(n)
}

func (w *writer) constant(n tree.Node) int {
	return w.add(api.Op{Kind: api.Const, A: n.Value})
}

// name relies on the order of writing: an equation at the place is written ahead of all that names it.
func (w *writer) name(n tree.Node) int {
	d := w.program.Decls[n.Decl]
	switch {
	case d.Kind == tree.Input:
		return w.add(api.Op{Kind: api.In, A: d.Number})
	case d.Place == w.place:
		return w.roots[n.Decl]
	}
	number, _ := w.link(n)
	return w.add(api.Op{Kind: api.Link, A: number})
}

// delay needs no cell where a late link holds the value of the instant before.
func (w *writer) delay(n tree.Node) int {
	first := w.program.Nodes[n.A]
	follower := w.program.Nodes[n.B]
	_, late := w.link(follower)
	if late {
		return w.handed(first, follower)
	}
	cell := len(w.code.Cells)
	w.code.Cells = append(w.code.Cells, first.Value)
	w.later = append(w.later, n.B)
	return w.add(api.Op{Kind: api.Cell, A: cell})
}

// handed asks whether the step is the first one, because a late link holds nothing of use then.
func (w *writer) handed(first tree.Node, follower tree.Node) int {
	a := w.add(api.Op{Kind: api.First})
	b := w.constant(first)
	c := w.name(follower)
	return w.add(api.Op{Kind: api.Choose, A: a, B: b, C: c})
}

// link tells which of the links to the place brings what a node names, and whether it is late. For a node that no link brings it is none and not late.
func (w *writer) link(n tree.Node) (int, bool) {
	if n.Kind != tree.Name || w.program.Decls[n.Decl].Kind == tree.Input {
		return 0, false
	}
	for i, r := range w.links {
		if r.From == w.program.Decls[n.Decl].Number {
			return i, r.Late
		}
	}
	return 0, false
}
