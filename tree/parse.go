package tree

import (
	"relay/api"
	"relay/scan"
)

// parser: its methods answer false where the token at hand cannot stand, and leave it at hand: its place is the fault's.
type parser struct {
	tokens  []scan.Token
	next    int
	depth   int // brackets that are open
	delays  int // EXPRs behind a fby that are open
	program Program
}

// Parse reads a program. If the text is none by its form, it answers false and the place of the fault.
func Parse(text string) (Program, int, bool) {
	p := parser{tokens: scan.Tokens(text)}
	for p.here().Kind != scan.End {
		if !p.declaration() {
			return Program{}, p.here().At, false
		}
	}
	p.bind()
	return p.program, 0, true
}

func (p *parser) here() scan.Token {
	return p.tokens[p.next]
}

// step stays at the end of the text, so that there is always a token at hand.
func (p *parser) step() {
	if p.next < len(p.tokens)-1 {
		p.next++
	}
}

// take steps over a sign or kept word; no other token has its bytes.
func (p *parser) take(text string) bool {
	if p.here().Text != text {
		return false
	}
	p.step()
	return true
}

func (p *parser) declaration() bool {
	switch p.here().Text {
	case "in":
		return p.input()
	case "int":
		return p.equation(Int)
	case "bool":
		return p.equation(Bool)
	}
	return false
}

func (p *parser) input() bool {
	p.step()
	name := p.here()
	if name.Kind != scan.Name {
		return false
	}
	p.step()
	p.declare(Decl{Kind: Input, Name: name.Text, At: name.At})
	return p.take(";")
}

func (p *parser) equation(kind int) bool {
	p.step()
	name := p.here()
	if name.Kind != scan.Name {
		return false
	}
	p.step()
	if !p.take("at") {
		return false
	}
	place, ok := p.place()
	if !ok {
		return false
	}
	if !p.take("=") {
		return false
	}
	root, ok := p.expr()
	if !ok {
		return false
	}
	end := len(p.program.Nodes)
	p.declare(Decl{Kind: kind, Name: name.Text, At: name.At, Place: place, Root: root, End: end})
	return p.take(";")
}

func (p *parser) place() (int, bool) {
	t := p.here()
	if t.Kind != scan.Number {
		return 0, false
	}
	place := valueOf(t.Text)
	if place >= api.MaxPlaces {
		return 0, false
	}
	p.step()
	return place, true
}

// valueOf has room for every number that is a token: MaxDigits digits are far below the greatest int.
func valueOf(digits string) int {
	value := 0
	for i := 0; i < len(digits); i++ {
		value = value*10 + int(digits[i]-'0')
	}
	return value
}

// declare numbers inputs and equations each on their own.
func (p *parser) declare(d Decl) {
	for _, ahead := range p.program.Decls {
		if (ahead.Kind == Input) == (d.Kind == Input) {
			d.Number++
		}
	}
	p.program.Decls = append(p.program.Decls, d)
}

func (p *parser) expr() (int, bool) {
	t := p.here()
	switch {
	case t.Text == "(":
		return p.bracket()
	case t.Text == "true":
		return p.leaf(Node{Kind: Truth, Value: 1}), true
	case t.Text == "false":
		return p.leaf(Node{Kind: Truth}), true
	case t.Kind == scan.Number:
		return p.leaf(Node{Kind: Number, Value: valueOf(t.Text)}), true
	case t.Kind == scan.Name:
		return p.leaf(Node{Kind: Name, Name: t.Text}), true
	}
	return 0, false
}

// leaf adds a node that is the token at hand.
func (p *parser) leaf(n Node) int {
	number := p.add(n)
	p.step()
	return number
}

// add adds a node that begins with the token at hand.
func (p *parser) add(n Node) int {
	n.At = p.here().At
	n.Delayed = p.delays > 0
	n.Behind = p.next > 0 && p.tokens[p.next-1].Text == "fby"
	p.program.Nodes = append(p.program.Nodes, n)
	return len(p.program.Nodes) - 1
}

// bracket adds its node ahead of the parts, for the order of nodes, and fills it in when they are known.
func (p *parser) bracket() (int, bool) {
	if p.depth >= api.MaxDepth {
		return 0, false
	}
	number := p.add(Node{})
	n := p.program.Nodes[number]
	p.step()
	p.depth++
	n, ok := p.inside(n)
	if !ok {
		return 0, false
	}
	p.depth--
	p.program.Nodes[number] = n
	return number, p.take(")")
}

func (p *parser) inside(n Node) (Node, bool) {
	switch p.here().Text {
	case "not":
		return p.not(n)
	case "if":
		return p.choice(n)
	}
	return p.infix(n)
}

func (p *parser) not(n Node) (Node, bool) {
	p.step()
	a, ok := p.expr()
	n.Kind = Not
	n.A = a
	return n, ok
}

func (p *parser) choice(n Node) (Node, bool) {
	p.step()
	a, ok := p.expr()
	if !ok {
		return n, false
	}
	b, ok := p.expr()
	if !ok {
		return n, false
	}
	c, ok := p.expr()
	n.Kind = If
	n.A = a
	n.B = b
	n.C = c
	return n, ok
}

// infix reads `EXPR OP EXPR` and `LITERAL fby EXPR`: which of them it is, is known behind the first part alone.
func (p *parser) infix(n Node) (Node, bool) {
	a, ok := p.expr()
	if !ok {
		return n, false
	}
	n.A = a
	literal := isLiteral(p.program.Nodes[a])
	if literal && p.take("fby") {
		return p.delay(n)
	}
	op, ok := operation(p.here().Text)
	if !ok {
		return n, false
	}
	p.step()
	b, ok := p.expr()
	n.Kind = Infix
	n.Op = op
	n.B = b
	return n, ok
}

func (p *parser) delay(n Node) (Node, bool) {
	p.delays++
	b, ok := p.expr()
	p.delays--
	n.Kind = Fby
	n.B = b
	return n, ok
}

func isLiteral(n Node) bool {
	return n.Kind == Number || n.Kind == Truth
}

func operation(sign string) (int, bool) {
	switch sign {
	case "+":
		return api.Add, true
	case "-":
		return api.Sub, true
	case "*":
		return api.Mul, true
	case "/":
		return api.Div, true
	case "<":
		return api.Less, true
	case "=":
		return api.Same, true
	case "&":
		return api.And, true
	case "|":
		return api.Or, true
	}
	return 0, false
}

// bind comes last, because a name may be used ahead of its declaration.
func (p *parser) bind() {
	for i := range p.program.Nodes {
		if p.program.Nodes[i].Kind == Name {
			p.program.Nodes[i].Decl = p.program.Find(p.program.Nodes[i].Name)
		}
	}
}
