package streams

import (
	"reflect"
	"testing"

	"relay/tree"
)

func TestOf(t *testing.T) {
	for _, c := range []struct {
		text string
		ins  [][]int
		n    int
		want [][]int
	}{
		{"", nil, 2, [][]int{}},
		{"in a;", [][]int{{1, 2}}, 2, [][]int{}},
		{"int x at 0=3;", nil, 0, [][]int{{}}},
		{"int x at 0=3;bool p at 1=true;bool q at 2=false;", nil, 2, [][]int{{3, 3}, {1, 1}, {0, 0}}},
		{"in a;int x at 0=a;in b;int y at 0=b;", [][]int{{1, 2}, {3}}, 3, [][]int{{1, 2, 0}, {3, 0, 0}}},
		{"int x at 0=(0 fby (y+1));int y at 0=x;", nil, 3, [][]int{{0, 1, 2}, {0, 1, 2}}},
		{"int x at 0=y;int y at 0=(0 fby (x+z));int z at 0=(y+1);", nil, 4, [][]int{{0, 1, 3, 7}, {0, 1, 3, 7}, {1, 2, 4, 8}}},
		{"in a;int x at 0=(1 fby (2 fby (3 fby a)));", [][]int{{7, 8}}, 6, [][]int{{1, 2, 3, 7, 8, 0}}},
	} {
		p, at, ok := tree.Parse(c.text)
		if !ok {
			t.Fatalf("Parse(%q) finds a fault at %d", c.text, at)
		}
		if got := Of(&p, c.ins, c.n); !reflect.DeepEqual(got, c.want) {
			t.Errorf("streams of %q: %v, want %v", c.text, got, c.want)
		}
	}
}
