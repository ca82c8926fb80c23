// Package tree holds a program as a tree, and reads it from a text.
package tree

// The kinds of declarations.
const (
	Input = 0
	Int   = 1 // an equation that is a number
	Bool  = 2 // an equation that is a truth
)

// The kinds of nodes.
const (
	Number = 0
	Truth  = 1
	Name   = 2
	Not    = 3
	If     = 4
	Fby    = 5
	Infix  = 6
)

// Decl: a declaration. Place, Root and End are those of an equation: its EXPR is node Root, and the nodes of its EXPR are Root to End - 1.
type Decl struct {
	Kind      int
	Number    int // among the inputs, or among the equations
	Name      string
	At        int // the place of its name in the text
	Place     int
	Root, End int
}

// Node: an EXPR, or the LITERAL ahead of a fby. Not has the part A; If has A, B and C; Fby and Infix have A and B.
type Node struct {
	Kind    int
	At      int    // the place of its first byte in the text
	Value   int    // of a Number or a Truth
	Name    string // of a Name
	Decl    int    // of a Name: the first declaration of it, or -1
	Op      int    // of an Infix: its kind of operation in package api
	A, B, C int
	Delayed bool // stands in an EXPR that follows a fby
	Behind  bool // stands right behind a fby
}

// Program: nodes are in the order of their first bytes, so that a node comes ahead of its parts.
type Program struct {
	Decls []Decl
	Nodes []Node
}

// Find tells the first declaration of a name, or -1.
func (p *Program) Find(name string) int {
	for i, d := range p.Decls {
		if d.Name == name {
			return i
		}
	}
	return -1
}

// Equations lists the declarations that are equations, in their order.
func (p *Program) Equations() []Decl {
	var list []Decl
	for _, d := range p.Decls {
		if d.Kind != Input {
			list = append(list, d)
		}
	}
	return list
}
