package play

import (
	"reflect"
	"testing"

	"relay/api"
	"relay/tree"
)

func TestRun(t *testing.T) {
	p, at, ok := tree.Parse("in a;int x at 0=((0 fby y)+a);int y at 1=(x+1);int z at 0=7;")
	if !ok {
		t.Fatalf("a fault at %d", at)
	}
	acts := []api.Act{{Place: 1}, {Place: 0}, {Place: 0, At: 1, Data: 2}, {Place: 1, At: 2}, {Place: 1, At: 3, Ack: 2}, {Place: 1, At: 6}, {Place: 0, At: 6}, {Place: 0, At: 7}, {Place: 0, At: 8}}
	want := []api.Event{
		{Place: 1},
		{Place: 0, Did: api.Stepped},
		{Place: 0, At: 1, Did: api.Published, Values: []int{5, 7}},
		{Place: 1, At: 2},
		{Place: 1, At: 3, Did: api.Stepped, Took: []int{0}},
		{Place: 1, At: 6, Did: api.Published, Values: []int{6}},
		{Place: 0, At: 6, Did: api.Stepped, N: 1, Took: []int{1}},
		{Place: 0, At: 7, Did: api.Published, N: 1, Values: []int{9, 7}},
		{Place: 0, At: 8},
	}
	if got := Run(&p, [][]int{{5, 3}}, acts); !reflect.DeepEqual(got, want) {
		t.Errorf("the events are %+v, want %+v", got, want)
	}
	if got := Run(&p, nil, nil); len(got) != 0 {
		t.Errorf("without acts the events are %+v", got)
	}
}

// A scene by hand: what is untaken, or taken and not known yet, holds the next values up.
func TestFree(t *testing.T) {
	for _, c := range []struct {
		w    wire
		want bool
	}{
		{wire{from: 2}, true}, {wire{from: 2, untaken: true}, false}, {wire{from: 1, untaken: true}, true},
		{wire{from: 2, known: 5}, true}, {wire{from: 2, known: 6}, false}, {wire{from: 3, to: 2, known: 6}, true},
	} {
		s := scene{wires: []wire{{from: 2, known: 1}, c.w}}
		if got := s.free(api.Act{Place: 2, At: 5}); got != c.want {
			t.Errorf("with %+v free is %v", c.w, got)
		}
	}
}
