package bounds

import (
	"testing"

	"relay/api"
	"relay/tree"
)

func TestFit(t *testing.T) {
	for _, c := range []struct {
		b    api.Bounds
		want bool
	}{
		{api.Bounds{Tmin: 1, Tmax: 1}, true}, {api.Bounds{Tmin: 3, Tmax: api.MaxSpan, Dmin: 2, Dmax: 2}, true},
		{api.Bounds{Tmin: 0, Tmax: 1, Dmax: -1}, false}, {api.Bounds{Tmin: 2, Tmax: 1}, false}, {api.Bounds{Tmin: 1, Tmax: api.MaxSpan + 1}, false},
		{api.Bounds{Tmin: 1, Tmax: 1, Dmin: -1}, false}, {api.Bounds{Tmin: 3, Tmax: 3, Dmin: 2, Dmax: 1}, false}, {api.Bounds{Tmin: 3, Tmax: 9, Dmax: 3}, false},
	} {
		if got := Fit(c.b); got != c.want {
			t.Errorf("Fit(%+v) = %v", c.b, got)
		}
	}
}

func TestLatest(t *testing.T) {
	b := api.Bounds{Tmin: 2, Tmax: 3, Dmin: 0, Dmax: 1}
	for _, c := range []struct {
		text    string
		k, want int
	}{
		{"", 0, 3}, {"", 2, 19}, {"int x at 0=1;int y at 1=x;", 0, 11}, {"int x at 0=1;int y at 1=x;", 2, 43},
		{"int z at 0=y;int y at 1=x;int x at 2=1;", 1, 43}, {"int x at 0=1;int y at 1=x;int z at 2=(x+y);int w at 3=z;", 1, 59},
	} {
		p, at, ok := tree.Parse(c.text)
		if !ok {
			t.Fatalf("Parse(%q) finds a fault at %d", c.text, at)
		}
		if got := Latest(&p, b, c.k); got != c.want {
			t.Errorf("Latest of %q at %d: %d, want %d", c.text, c.k, got, c.want)
		}
	}
}

func TestLongest(t *testing.T) {
	for _, c := range []struct {
		waits [][2]int // who waits, for whom
		want  int
	}{
		{nil, 0}, {[][2]int{{0, 1}}, 1}, {[][2]int{{3, 0}, {2, 0}, {1, 0}}, 1}, {[][2]int{{0, 1}, {0, 2}, {1, 2}}, 2},
		{[][2]int{{0, 1}, {1, 2}, {2, 3}}, 3}, {[][2]int{{3, 2}, {2, 1}, {1, 0}}, 3}, {[][2]int{{1, 3}, {3, 0}, {0, 2}, {1, 2}}, 3},
	} {
		waits := make([][]bool, 4)
		for i := range waits {
			waits[i] = make([]bool, 4)
		}
		for _, pair := range c.waits {
			waits[pair[0]][pair[1]] = true
		}
		if got := longest(waits); got != c.want {
			t.Errorf("the longest chain of %v: %d, want %d", c.waits, got, c.want)
		}
	}
}
