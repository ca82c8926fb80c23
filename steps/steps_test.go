package steps

import (
	"reflect"
	"testing"

	"relay/api"
	"relay/tree"
)

func TestFor(t *testing.T) {
	for _, c := range []struct {
		text  string
		place int
		want  api.Code
	}{
		{"", 0, api.Code{}},
		{"in a;", 0, api.Code{}},
		{"int x at 1=(0 fby x);", 0, api.Code{}},
		{"int x at 1=3;", -1, api.Code{}},
		{"bool p at 1=true;", 1, api.Code{Ops: []api.Op{{Kind: api.Const, A: 1}}, Out: []int{0}}},
		// An equation that is but a name makes no operation of its own.
		{"in a;int x at 0=y;in b;int y at 0=b;", 0, api.Code{Ops: []api.Op{{Kind: api.In, A: 1}}, Out: []int{0, 0}}},
		{"in a;int x at 0=((5 fby x)+a);", 0, api.Code{
			Ops:   []api.Op{{Kind: api.Cell}, {Kind: api.In}, {Kind: api.Add, A: 0, B: 1}},
			Cells: []int{5}, Next: []int{2}, Out: []int{2},
		}},
		// A late link needs no cell; a prompt one does, because it has the value of the instant.
		{"int x at 0=(4 fby y);int y at 1=(x+1);", 0, api.Code{
			Ops: []api.Op{{Kind: api.First}, {Kind: api.Const, A: 4}, {Kind: api.Link}, {Kind: api.Choose, A: 0, B: 1, C: 2}},
			Out: []int{3},
		}},
		{"int x at 0=1;int y at 3=(x-(7 fby x));", 3, api.Code{
			Ops:   []api.Op{{Kind: api.Link}, {Kind: api.Cell}, {Kind: api.Sub, A: 0, B: 1}, {Kind: api.Link}},
			Cells: []int{7}, Next: []int{3}, Out: []int{2},
		}},
		// Behind a fby: another one, and an equation that comes later.
		{"int x at 0=(1 fby (2 fby y));int y at 0=(if (x<3) x 4);", 0, api.Code{
			Ops: []api.Op{
				{Kind: api.Cell}, {Kind: api.Const, A: 3}, {Kind: api.Less, A: 0, B: 1}, {Kind: api.Const, A: 4}, {Kind: api.Choose, A: 2, B: 0, C: 3},
				{Kind: api.Cell, A: 1},
			},
			Cells: []int{1, 2}, Next: []int{5, 4}, Out: []int{0, 4},
		}},
	} {
		p, at, ok := tree.Parse(c.text)
		if !ok {
			t.Fatalf("Parse(%q) finds a fault at %d", c.text, at)
		}
		if got := For(&p, c.place); !reflect.DeepEqual(got, c.want) {
			t.Errorf("code of %q at %d: %+v, want %+v", c.text, c.place, got, c.want)
		}
	}
}

// The links to other places don't count.
func TestLinksAreNumberedByPlace(t *testing.T) {
	p, _, _ := tree.Parse("int x at 0=1;int y at 1=x;int z at 2=(0 fby x);int w at 3=((y+z)+(6 fby x));")
	got := For(&p, 3)
	numbers := []int{}
	for _, o := range got.Ops {
		if o.Kind == api.Link {
			numbers = append(numbers, o.A)
		}
	}
	if !reflect.DeepEqual(numbers, []int{1, 2, 0}) {
		t.Errorf("the links are %v in %+v", numbers, got)
	}
}
