package reckon

import (
	"testing"

	"relay/api"
)

const (
	most  = 1<<63 - 1
	least = -1 << 63
)

func TestPair(t *testing.T) {
	for _, c := range []struct{ kind, a, b, want int }{
		{api.Add, 2, 3, 5}, {api.Add, most, 1, least}, {api.Add, least, least, 0}, {api.Add, least, -1, most},
		{api.Sub, 2, 3, -1}, {api.Sub, least, 1, most}, {api.Sub, 0, least, least}, {api.Sub, most, -1, least},
		{api.Mul, -4, 3, -12}, {api.Mul, most, 2, -2}, {api.Mul, least, -1, least}, {api.Mul, 1 << 32, 1 << 32, 0},
		{api.Div, 7, 2, 3}, {api.Div, -7, 2, -3}, {api.Div, 7, -2, -3}, {api.Div, -7, -2, 3}, {api.Div, 1, 2, 0}, {api.Div, -1, 2, 0},
		{api.Div, 7, 0, 0}, {api.Div, 0, 0, 0}, {api.Div, least, 0, 0}, {api.Div, least, -1, least}, {api.Div, most, -1, -most}, {api.Div, 5, -1, -5}, {api.Div, least, 1, least}, {api.Div, least, least, 1}, {api.Div, most, least, 0},
		{api.Less, 1, 2, 1}, {api.Less, 2, 2, 0}, {api.Less, 3, 2, 0}, {api.Less, least, most, 1}, {api.Less, most, least, 0}, {api.Less, -1, 0, 1},
		{api.Same, 1, 2, 0}, {api.Same, 2, 2, 1}, {api.Same, least, least, 1}, {api.Same, least, most, 0},
		{api.And, 0, 0, 0}, {api.And, 0, 1, 0}, {api.And, 1, 0, 0}, {api.And, 1, 1, 1}, {api.And, 2, 4, 1}, {api.And, -1, least, 1}, {api.And, 2, 0, 0},
		{api.Or, 0, 0, 0}, {api.Or, 0, 1, 1}, {api.Or, 1, 0, 1}, {api.Or, 1, 1, 1}, {api.Or, 2, 4, 1}, {api.Or, 0, -3, 1}, {api.Or, least, least, 1},
		{api.First, 1, 1, 0}, {api.Not, 0, 0, 0}, {api.Choose, 1, 1, 0}, {-1, 1, 1, 0}, {most, 1, 1, 0},
	} {
		if got := Pair(c.kind, c.a, c.b); got != c.want {
			t.Errorf("Pair(%d, %d, %d) = %d, want %d", c.kind, c.a, c.b, got, c.want)
		}
	}
}

func TestNot(t *testing.T) {
	for _, c := range [][2]int{{0, 1}, {1, 0}, {2, 0}, {-1, 0}, {least, 0}} {
		if got := Not(c[0]); got != c[1] {
			t.Errorf("Not(%d) = %d, want %d", c[0], got, c[1])
		}
	}
}

func TestChoose(t *testing.T) {
	for _, c := range [][2]int{{0, 6}, {1, 5}, {2, 5}, {-1, 5}, {least, 5}} {
		if got := Choose(c[0], 5, 6); got != c[1] {
			t.Errorf("Choose(%d, 5, 6) = %d, want %d", c[0], got, c[1])
		}
	}
}
