package acts

import (
	"testing"

	"relay/api"
	"relay/tree"
)

// list: acts, four numbers each.
func list(numbers ...int) []api.Act {
	var s []api.Act
	for i := 0; i+3 < len(numbers); i += 4 {
		s = append(s, api.Act{Place: numbers[i], At: numbers[i+1], Ack: numbers[i+2], Data: numbers[i+3]})
	}
	return s
}

func TestPlayable(t *testing.T) {
	p, at, ok := tree.Parse("in a;int x at 1=a;int y at 3=a;")
	if !ok {
		t.Fatalf("a fault at %d", at)
	}
	for _, c := range []struct {
		s    []api.Act
		want bool
	}{
		{nil, true}, {list(1, 0, 0, 0), true}, {list(3, 0, 0, 0), true},
		{list(0, 0, 0, 0), false}, {list(2, 0, 0, 0), false}, {list(4, 0, 0, 0), false}, {list(-1, 0, 0, 0), false},
		{list(1, api.MaxTime, api.MaxTime, api.MaxTime), true}, {list(1, api.MaxTime+1, 0, 0), false}, {list(1, -1, 0, 0), false},
		{list(1, 0, -1, 0), false}, {list(1, 0, 0, -1), false}, {list(1, 0, api.MaxTime+1, 0), false}, {list(1, 0, 0, api.MaxTime+1), false},
		{list(1, 5, 0, 0, 3, 5, 0, 0), true}, {list(1, 5, 0, 0, 3, 4, 0, 0), false},
		{list(1, 5, 0, 0, 1, 5, 0, 0), false}, {list(1, 5, 0, 0, 1, 6, 0, 0), true}, {list(1, 5, 1, 0, 1, 6, 0, 0), false}, {list(1, 5, 0, 1, 1, 6, 0, 0), false},
		{list(1, 5, 1, 1, 3, 5, 9, 9, 1, 7, 0, 0), true}, {list(1, 5, 2, 1, 3, 5, 9, 9, 1, 7, 0, 0), false}, {list(1, 5, 1, 2, 3, 5, 9, 9, 1, 7, 0, 0), false},
		{make([]api.Act, api.MaxActs+1), false},
	} {
		if got := Playable(&p, c.s); got != c.want {
			t.Errorf("Playable(%v) = %v", c.s, got)
		}
	}
}

func TestKeep(t *testing.T) {
	b := api.Bounds{Tmin: 4, Tmax: 6, Dmin: 1, Dmax: 2}
	for _, c := range []struct {
		s    []api.Act
		want bool
	}{
		{nil, true}, {list(1, 0, 1, 2), true}, {list(1, 6, 2, 1), true}, {list(1, 7, 1, 1), false},
		{list(1, 0, 0, 1), false}, {list(1, 0, 1, 0), false}, {list(1, 0, 3, 1), false}, {list(1, 0, 1, 3), false},
		{list(1, 5, 1, 1, 1, 9, 1, 1), true}, {list(1, 5, 1, 1, 1, 11, 1, 1), true}, {list(1, 5, 1, 1, 1, 8, 1, 1), false}, {list(1, 5, 1, 1, 1, 12, 1, 1), false},
		{list(1, 5, 1, 1, 3, 6, 1, 1, 1, 10, 1, 1, 3, 12, 1, 1), true}, {list(1, 5, 1, 1, 3, 7, 1, 1), false},
	} {
		if got := Keep(c.s, b); got != c.want {
			t.Errorf("Keep(%v, %+v) = %v", c.s, b, got)
		}
	}
}
