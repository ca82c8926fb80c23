package tree

import (
	"reflect"
	"strings"
	"testing"

	"relay/api"
)

func parse(t *testing.T, text string) Program {
	p, at, ok := Parse(text)
	if !ok || at != 0 {
		t.Fatalf("Parse(%q) finds a fault at %d", text, at)
	}
	return p
}

func TestDeclarations(t *testing.T) {
	p := parse(t, "in a;int x at 02=(1+a);in b;bool p at 3=true;")
	want := []Decl{
		{Kind: Input, Name: "a", At: 3},
		{Kind: Int, Name: "x", At: 9, Place: 2, Root: 0, End: 3},
		{Kind: Input, Number: 1, Name: "b", At: 26},
		{Kind: Bool, Number: 1, Name: "p", At: 33, Place: 3, Root: 3, End: 4},
	}
	if !reflect.DeepEqual(p.Decls, want) {
		t.Errorf("declarations %+v, want %+v", p.Decls, want)
	}
	if got := p.Equations(); !reflect.DeepEqual(got, []Decl{want[1], want[3]}) {
		t.Errorf("equations %+v", got)
	}
	if p.Find("b") != 2 || p.Find("c") != -1 {
		t.Errorf("b is found at %d, c at %d", p.Find("b"), p.Find("c"))
	}
}

func TestNodes(t *testing.T) {
	p := parse(t, "int x at 0=(if(not true)(07 fby x)(y/x));")
	want := []Node{
		{Kind: If, At: 11, A: 1, B: 3, C: 6},
		{Kind: Not, At: 14, A: 2},
		{Kind: Truth, At: 19, Value: 1},
		{Kind: Fby, At: 24, A: 4, B: 5},
		{Kind: Number, At: 25, Value: 7},
		{Kind: Name, At: 32, Name: "x", Delayed: true, Behind: true},
		{Kind: Infix, At: 34, Op: api.Div, A: 7, B: 8},
		{Kind: Name, At: 35, Name: "y", Decl: -1},
		{Kind: Name, At: 37, Name: "x"},
	}
	if !reflect.DeepEqual(p.Nodes, want) {
		t.Errorf("nodes %+v, want %+v", p.Nodes, want)
	}
}

func TestOperations(t *testing.T) {
	for sign, op := range map[string]int{"+": api.Add, "-": api.Sub, "*": api.Mul, "/": api.Div, "<": api.Less, "=": api.Same, "&": api.And, "|": api.Or} {
		p := parse(t, "int x at 0=(1"+sign+"2);")
		if n := p.Nodes[0]; n.Kind != Infix || n.Op != op {
			t.Errorf("%s is %+v", sign, n)
		}
	}
}

// What follows the fby is delayed, however deep; what follows the bracket around it is not.
func TestDelayed(t *testing.T) {
	p := parse(t, "int x at 0=((1 fby (x+(2 fby x)))+x);")
	got := ""
	for _, n := range p.Nodes {
		if n.Kind == Name {
			got += map[bool]string{true: "D", false: "-"}[n.Delayed] + map[bool]string{true: "B", false: "-"}[n.Behind] + " "
		}
	}
	if got != "D- DB -- " {
		t.Errorf("delayed and behind: %s", got)
	}
}

// A bracket that is closed no longer counts.
func TestDepth(t *testing.T) {
	side := strings.Repeat("(1+", 15) + "1" + strings.Repeat(")", 15)
	parse(t, "int x at 0=("+side+"*"+side+");int y at 0=("+side+"*"+side+");")
	if _, at, ok := Parse("int x at 0=(" + side + "*(" + side + "+1));"); ok || at != 12+len(side)+2+14*3 {
		t.Errorf("a bracket too deep: %v, %d", ok, at)
	}
}

func TestFaultLeavesNothing(t *testing.T) {
	p, at, ok := Parse("in a;int x at 0=(1+2;")
	if ok || at != 20 || p.Decls != nil || p.Nodes != nil {
		t.Errorf("got %+v, %d, %v", p, at, ok)
	}
}
